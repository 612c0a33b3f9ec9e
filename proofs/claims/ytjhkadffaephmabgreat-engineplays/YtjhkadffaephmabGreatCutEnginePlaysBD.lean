/-
  Our own texts, bundled: a claim holds few files.
-/
import Derived.Test.YtjhkadffaephmabGreatCutEnginePlaysBC
import Derived.Test.YtjhkadffaephmabGreatCutEnginePlaysAI
import Derived.Test.YtjhkadffaephmabGreatCutEnginePlaysAD
import Derived.Test.YtjhkadffaephmabGreatCutEnginePlaysAH
/-
  engine.twice of a full bag, engine.untold; a router that is another.
-/
namespace Go.Proofs.YtjhkadffaephmabGreat
set_option maxRecDepth 100000
open Go.RowKit

set_option maxHeartbeats 1000000 in
theorem twice_many (base P N i : Nat) (e : Eng) (Bv : Value) (y : Lay) (w : World) (hL : Live base P N e Bv y w) (hm : 120 ≤ e.bag.length) (hm2 : e.bag.length ≤ 200) :
    Calls Tryz.prog 75 #[.pointer (some ⟨P, 0, none⟩), .int .i64 i] w fun r w' => r = .returned (.int .i64 2) ∧ Live base P N e Bv y w' ∧ Below base w w' := by
  obtain ⟨g, cap, hBv⟩ : ∃ g cap, Bv = .slice (some ⟨g, 0, none⟩) e.bag.length cap := by
    rcases Go.Joins.ownsRow_forms hL.bag with ⟨_, e0⟩ | ⟨g, cap, e1⟩
    · omega
    · exact ⟨g, cap, e1⟩
  have p1 := hL.head.cell 1
  simp at p1
  rw [hBv] at p1
  have HF := hide (And.intro hL (Below.refl base w))
  generalize e.bag.length = len at *
  have hm' : (120 : Int) ≤ (len : Int) := by omega
  clear hL hBv
  go_enter Tryz.func75, Tryz.ntmps75
  go_wp2
  go_ret
  exact ⟨rfl, HF.out⟩

theorem made_nil {N k : Nat} (h : k < N) : (madeCells #[.slice none 0 0] N)[k]? = some (.slice none 0 0) := by
  simp [madeCells, h, Nat.mod_one]

set_option maxHeartbeats 1000000 in
theorem untold_any (n : NetM) (ra : Option Addr) (rl rc N : Nat) (w : World) (hN : n.nodes = N) (hN6 : N ≤ 6) :
    Calls Tryz.prog 21 #[n.val, .slice ra rl rc] w fun r w' => (∃ T, r = .returned (.agg #[.slice ra rl rc, .slice (some ⟨T, 0, none⟩) N N]) ∧ w.heap.size ≤ T ∧ Blk w' T (madeCells #[.slice none 0 0] N) 32) ∧ Below w.heap.size w w' := by
  obtain ⟨i2, hi2, hx0, hx1, hx2⟩ := info_parts Tryz.infoInts
  have hmkA : ∀ u : World, (Instr.makeSlice 22 (.int .i64 (N : Int)) (.int .i64 (N : Int))).run Tryz.prog u = .ok (.slice (some ⟨u.heap.size, 0, none⟩) N N) (u.alloc (.cells (madeCells #[.slice none 0 0] N) 32)) := fun u => by
    have h := run_make (P := Tryz.prog) u 22 32 i2 (.slice none 0 0) Tryz.underlying22 hi2 hx0 .i64 .i64 (N : Int) (N : Int) (by omega) (Int.le_refl _) (by rw [hx2]; omega) (by omega)
    simpa [hx1, Value.cells] using h
  obtain ⟨W1, hW1⟩ : ∃ W1, W1 = ((w.alloc (.cells n.cells 27)).alloc (.cells #[.slice ra rl rc, .slice (some ⟨w.heap.size + 1 + 1, 0, none⟩) N N] 59)).alloc (.cells (madeCells #[.slice none 0 0] N) 32) := ⟨_, rfl⟩
  have hB1 : Below w.heap.size w W1 := by rw [hW1]; exact (((Below.refl _ w).alloc (Nat.le_refl _) _).alloc (by simp) _).alloc (by simp; omega) _
  have b2 : Blk W1 (w.heap.size + 1) #[.slice ra rl rc, .slice (some ⟨w.heap.size + 1 + 1, 0, none⟩) N N] 59 := by rw [hW1]; exact (Blk.new' (by simp)).alloc _
  have b3 : Blk W1 (w.heap.size + 1 + 1) (madeCells #[.slice none 0 0] N) 32 := by rw [hW1]; exact Blk.new' (by simp)
  have d0 := b2.cell 0
  have d1 := b2.cell 1
  simp at d0 d1
  have hcells : n.cells = #[.int .i64 n.a.size, .slice n.a.B.ga n.a.B.t.len n.a.B.cap, .slice n.a.E.ga n.a.E.t.len n.a.E.cap, .int .i64 N, .slice n.la n.ln n.lc] := by simp only [NetM.cells, Mat.val, hN]
  rw [hcells] at hW1
  rw [NetM.val, hcells]
  have HF := hide (And.intro b3 hB1)
  have HW1 := hide hW1
  generalize hmc : madeCells #[.slice none 0 0] N = mc at *
  clear hB1 b2 b3 hW1 hcells hN hi2 hx0 hx1 hx2
  go_enter Tryz.func21, Tryz.ntmps21
  go_wp2
  rw [← HW1.out]
  exact bodyPost_ret (v := .agg #[.slice ra rl rc, .slice (some ⟨w.heap.size + 1 + 1, 0, none⟩) N N]) (by simp [results, Tryz.results21, go_sem, d0, d1]) rfl ⟨⟨_, rfl, by omega, HF.out.1⟩, HF.out.2⟩

/-- A router is another, that was told nothing. -/
theorem Live.setRouter {base P N : Nat} {e : Eng} {Bv : Value} {y : Lay} {W : World} (h : Live base P N e Bv y W) {i b c T tc : Nat} {vts : Array Value} (hi : i < N) (f : Nat → Int) (ho : y.Off P N Bv W b) (hc : ∀ j, j < N → W.cell? ⟨b, j, none⟩ = some (.int .i64 (f j)))
    (hT : Blk W T vts 32) (hv : ∀ k, k < N → vts[k]? = some (.slice none 0 0)) (hoT : y.Off P N Bv W T) (hbT : b ≠ T) (hlo : base ≤ T) (hr : ∀ r, r < N → y.rb r ≠ T) (hd : ∀ r k, r < N → k < N → e.told r k = true → y.db r k ≠ T) :
    ∃ y', Live base P N (e.restart i f) Bv y' ((W.setCell ⟨y.G, i * 2, none⟩ (.slice (some ⟨b, 0, none⟩) N c)).setCell ⟨y.G, i * 2 + 1, none⟩ (.slice (some ⟨T, 0, none⟩) N tc)) := by
  obtain ⟨W2, hW2⟩ : ∃ W2, W2 = (W.setCell ⟨y.G, i * 2, none⟩ (.slice (some ⟨b, 0, none⟩) N c)).setCell ⟨y.G, i * 2 + 1, none⟩ (.slice (some ⟨T, 0, none⟩) N tc) := ⟨_, rfl⟩
  have hsz : ∀ r, r < N → r * 2 + 1 < y.vs.size := fun r hr => (Array.getElem?_eq_some_iff.1 (h.r1 r hr)).1
  have hws : W2.heap.size = W.heap.size := by rw [hW2]; simp
  have hcell : ∀ q j, q ≠ y.G → W2.cell? ⟨q, j, none⟩ = W.cell? ⟨q, j, none⟩ := fun q j hq => by rw [hW2, cell_other hq, cell_other hq]
  have hblk : ∀ q cs t, q ≠ y.G → Blk W q cs t → Blk W2 q cs t := fun q cs t hq hb => by rw [hW2]; exact (hb.other hq _ _).other hq _ _
  obtain ⟨y', hy'⟩ : ∃ y' : Lay, y' = { y with vs := (y.vs.setIfInBounds (i * 2) (.slice (some ⟨b, 0, none⟩) N c)).setIfInBounds (i * 2 + 1) (.slice (some ⟨T, 0, none⟩) N tc), rb := fun r => if r = i then b else y.rb r, rc := fun r => if r = i then c else y.rc r, Tb := fun r => if r = i then T else y.Tb r, Tc := fun r => if r = i then tc else y.Tc r, vt := fun r => if r = i then vts else y.vt r, ta := fun r q => if r = i then none else y.ta r q, tc := fun r q => if r = i then 0 else y.tc r q } := ⟨_, rfl⟩
  have hTb : ∀ k, y'.Tb k = if k = i then T else y.Tb k := fun k => by rw [hy']
  have hG : y'.G = y.G := by rw [hy']
  have hlo' : y'.lo = y.lo := by rw [hy']
  have hoff : ∀ q, y.Off P N Bv W q → q ≠ T → y'.Off P N Bv W2 q := fun q hq hqT => ⟨hq.p, by rw [hG]; exact hq.g, fun k hk => by rw [hTb]; split; exact hqT; exact hq.t k hk, hq.v, by rw [hws]; exact hq.lt, by rw [hlo']; exact hq.lo⟩
  rw [← hW2]
  refine ⟨y', ?_, ?_, fun r hr' => ?_, fun r hr' => ?_, fun r hr' => ?_, fun r hr' k hk => ?_, fun r hr' => ?_, fun r hr' k hk ht => ?_, ?_, h.lp, by rw [hG]; exact h.lg, fun r hr' => ?_, by rw [hG]; exact h.pg, fun r hr' => ?_, fun r hr' => ?_, fun r k hr' hk hne => ?_, fun g hg => ?_, by rw [hlo']; exact h.ylo⟩
  · have := hblk P _ _ h.pg h.head
    rw [hy']; exact this
  · have := (h.rtrs.set (i * 2) (.slice (some ⟨b, 0, none⟩) N c)).set (i * 2 + 1) (.slice (some ⟨T, 0, none⟩) N tc)
    rw [hy', hW2]; exact this
  · rw [hy']
    show ((y.vs.setIfInBounds (i * 2) _).setIfInBounds (i * 2 + 1) _)[r * 2]? = some (.slice (some ⟨if r = i then b else y.rb r, 0, none⟩) N (if r = i then c else y.rc r))
    rw [Array.getElem?_setIfInBounds_ne (by omega)]
    by_cases e1 : r = i
    · subst e1
      have := hsz r hr'
      rw [if_pos rfl, if_pos rfl, Array.getElem?_setIfInBounds_self_of_lt (by omega)]
    · rw [if_neg e1, if_neg e1, Array.getElem?_setIfInBounds_ne (by omega)]
      exact h.r0 r hr'
  · rw [hy']
    show ((y.vs.setIfInBounds (i * 2) _).setIfInBounds (i * 2 + 1) _)[r * 2 + 1]? = some (.slice (some ⟨if r = i then T else y.Tb r, 0, none⟩) N (if r = i then tc else y.Tc r))
    by_cases e1 : r = i
    · subst e1
      have := hsz r hr'
      rw [if_pos rfl, if_pos rfl, Array.getElem?_setIfInBounds_self_of_lt (by simp; omega)]
    · rw [if_neg e1, if_neg e1, Array.getElem?_setIfInBounds_ne (by omega), Array.getElem?_setIfInBounds_ne (by omega)]
      exact h.r1 r hr'
  · rw [hy']
    show Blk W2 (if r = i then T else y.Tb r) (if r = i then vts else y.vt r) _
    by_cases e1 : r = i
    · rw [if_pos e1, if_pos e1]
      exact hblk T _ _ hoT.g hT
    · rw [if_neg e1, if_neg e1]
      exact hblk _ _ _ (Ne.symm (h.gt r hr')) (h.tolds r hr')
  · rw [hy']
    show (if r = i then vts else y.vt r)[k]? = some (.slice (if r = i then none else y.ta r k) (if (if r = i then false else e.told r k) = true then N else 0) (if r = i then 0 else y.tc r k))
    by_cases e1 : r = i
    · simp only [if_pos e1]
      exact hv k hk
    · simp only [if_neg e1]
      exact h.t0 r hr' k hk
  · have hrb : y'.rb r = if r = i then b else y.rb r := by rw [hy']
    rw [hrb]
    show Lay.Off _ P N Bv _ _ ∧ ∀ j, j < N → World.cell? _ ⟨if r = i then b else y.rb r, j, none⟩ = some (.int .i64 ((if r = i then f else e.R r) j))
    by_cases e1 : r = i
    · rw [if_pos e1, if_pos e1]
      exact ⟨hoff b ho hbT, fun j hj => by rw [hcell _ _ ho.g]; exact hc j hj⟩
    · rw [if_neg e1, if_neg e1]
      exact ⟨hoff _ (h.routes r hr').1 (hr r hr'), fun j hj => by rw [hcell _ _ (h.routes r hr').1.g]; exact (h.routes r hr').2 j hj⟩
  · have ht' : (if r = i then false else e.told r k) = true := ht
    by_cases e1 : r = i
    · rw [if_pos e1] at ht'; cases ht'
    · rw [if_neg e1] at ht'
      have e2 : y'.ta r k = y.ta r k := by rw [hy']; exact if_neg e1
      have e3 : y'.db r k = y.db r k := by rw [hy']
      have e4 : y'.dn r k = y.dn r k := by rw [hy']
      rw [e2, e3, e4]
      obtain ⟨h1, h2, h3⟩ := h.rows r hr' k hk ht'
      exact ⟨h1, hoff _ h2 (hd r k hr' hk ht'), fun j hj => by rw [hcell _ _ h2.g]; exact h3 j hj⟩
  · have hbg : Bv.ownBlock ≠ some y.G := fun e1 => (h.bv _ e1).2.1 rfl
    rw [hW2]
    exact ownsRow_setCell_other (ownsRow_setCell_other h.bag hbg _) hbg _
  · rw [hTb]; split
    · exact hlo
    · exact h.lt r hr'
  · rw [hTb]; split
    · exact Ne.symm hoT.p
    · exact h.pt r hr'
  · rw [hTb, hG]; split
    · exact Ne.symm hoT.g
    · exact h.gt r hr'
  · rw [hTb, hTb]
    by_cases e1 : r = i
    · rw [if_pos e1, if_neg (by omega)]
      exact hoT.t k hk
    · rw [if_neg e1]
      by_cases e2 : k = i
      · rw [if_pos e2]; exact Ne.symm (hoT.t r hr')
      · rw [if_neg e2]; exact h.tt r k hr' hk hne
  · obtain ⟨h1, h2, h3⟩ := h.bv g hg
    refine ⟨h1, by rw [hG]; exact h2, fun r hr' => ?_⟩
    rw [hTb]; split
    · intro e1; exact hoT.v (by rw [← e1]; exact hg)
    · exact h3 r hr'

end Go.Proofs.YtjhkadffaephmabGreat

/-
 engine.restart.
-/
namespace Go.Proofs.YtjhkadffaephmabGreat
set_option maxRecDepth 100000
open Go.RowKit

set_option maxHeartbeats 1000000 in
theorem restart_form (n : NetM) (base P N i : Nat) (ra : Option Addr) (rl rc : Nat) (e : Eng) (Bv : Value) (y : Lay) (w : World) (hN : n.nodes = N) (hL : Live base P N e Bv y w) (hl : rl ≠ N) (_hN6 : N ≤ 6) (_hrl : rl ≤ maxLen) :
  Calls Tryz.prog 74 #[n.val, .pointer (some ⟨P, 0, none⟩), .int .i64 i, .slice ra rl rc] w fun r w' => r = .returned (.int .i64 1) ∧ Live base P N e Bv y w' ∧ Below base w w' := by
 have hbw : base ≤ w.heap.size := Nat.le_of_lt (Nat.lt_of_le_of_lt hL.lp hL.head.lt)
 have hB1 : Below w.heap.size w (w.alloc (.cells n.cells 27)) := (Below.refl _ w).alloc (Nat.le_refl _) _
 have hcells : n.cells = #[.int .i64 n.a.size, .slice n.a.B.ga n.a.B.t.len n.a.B.cap, .slice n.a.E.ga n.a.E.t.len n.a.E.cap, .int .i64 N, .slice n.la n.ln n.lc] := by simp only [NetM.cells, Mat.val, hN]
 have HF := hide (And.intro (hL.below hB1) (hB1.mono hbw))
 rw [hcells] at HF
 rw [NetM.val, hcells]
 unfold maxLen at _hrl
 have hne : ((rl : Int) == (N : Int)) = false := by simp; omega
 clear hL hbw hB1 hcells hN
 go_enter Tryz.func74, Tryz.ntmps74
 go_wp2
 go_ret
 exact ⟨rfl, HF.out⟩

set_option maxHeartbeats 1000000 in
theorem restart_none (n : NetM) (base P N i : Nat) (ra : Option Addr) (rc rb ro : Nat) (f : Nat → Int) (e : Eng) (Bv : Value) (y : Lay) (w : World) (hN : n.nodes = N) (_hN6 : N ≤ 6) (hL : Live base P N e Bv y w) (hr : Ints ra N rb ro f w) (hrb : 0 < N → rb < w.heap.size) (hbad : rowIn N f n.a.size = false) :
  Calls Tryz.prog 74 #[n.val, .pointer (some ⟨P, 0, none⟩), .int .i64 i, .slice ra N rc] w fun r w' => r = .returned (.int .i64 5) ∧ Live base P N e Bv y w' ∧ Below base w w' := by
 have hbw : base ≤ w.heap.size := Nat.le_of_lt (Nat.lt_of_le_of_lt hL.lp hL.head.lt)
 have hB1 : Below w.heap.size w (w.alloc (.cells n.cells 27)) := (Below.refl _ w).alloc (Nat.le_refl _) _
 have hcells : n.cells = #[.int .i64 n.a.size, .slice n.a.B.ga n.a.B.t.len n.a.B.cap, .slice n.a.E.ga n.a.E.t.len n.a.E.cap, .int .i64 N, .slice n.la n.ln n.lc] := by simp only [NetM.cells, Mat.val, hN]
 have HS := hide (sallBelow_any ra N rc rb ro f n.a.size _ (hr.below hB1 hrb) (fun h0 => Nat.lt_of_lt_of_le (hrb h0) hB1.size))
 rw [hbad] at HS
 have HX : Hid (∀ W, Below (w.alloc (.cells n.cells 27)).heap.size (w.alloc (.cells n.cells 27)) W → Live base P N e Bv y W ∧ Below base w W) := hide (fun W hb => ⟨(hL.below hB1).below hb, (hB1.mono hbw).trans (hb.mono (Nat.le_trans hbw hB1.size))⟩)
 rw [hcells] at HS HX
 rw [NetM.val, hcells]
 clear hL hbw hB1 hcells hN hr hrb hbad
 go_enter Tryz.func74, Tryz.ntmps74
 go_wp2_with fail
 go_at_call 58
 refine HS.out.mono ?_
 rintro r w2 ⟨rfl, hb2⟩
 have HF := hide (HX.out w2 hb2)
 clear hb2 HX HS
 go_wp2
 go_ret
 exact ⟨rfl, HF.out⟩

/-- What stands all through the store of a router. -/
structure RestG (base P N : Nat) (n : NetM) (b3 : Nat) (e : Eng) (Bv : Value) (y : Lay) (w1 W : World) : Prop where
 live : Live base P N e Bv y W
 net : Blk W b3 n.cells 27
 below : Below w1.heap.size w1 W
theorem RestG.keep {base P N : Nat} {n : NetM} {b3 : Nat} {e : Eng} {Bv : Value} {y : Lay} {w1 W W' : World} (h : RestG base P N n b3 e Bv y w1 W) (hb : Below W.heap.size W W') : RestG base P N n b3 e Bv y w1 W' := ⟨h.live.below hb, h.net.below hb h.net.lt, h.below.trans (hb.mono h.below.size)⟩
/-- A row of routes that was made. -/
def RowAt (N : Nat) (f : Nat → Int) (w1 W : World) (b : Nat) : Prop := w1.heap.size ≤ b ∧ b < W.heap.size ∧ ∀ j, j < N → W.cell? ⟨b, j, none⟩ = some (.int .i64 (f j))
theorem RowAt.keep {N : Nat} {f : Nat → Int} {w1 W W' : World} {b : Nat} (h : RowAt N f w1 W b) (hb : Below W.heap.size W W') : RowAt N f w1 W' b := ⟨h.1, Nat.lt_of_lt_of_le h.2.1 hb.size, fun j hj => by rw [hb.cell (p := ⟨b, j, none⟩) h.2.1]; exact h.2.2 j hj⟩
def restE (vs : List Value) (N : Nat) (f : Nat → Int) (w1 : World) (k : Nat) (v : Value) (W : World) : Prop :=
 if k = 7 then ∃ b c : Nat, v = .slice (some ⟨b, 0, none⟩) N c ∧ RowAt N f w1 W b
 else if k = 8 then ∃ b c T : Nat, v = .agg #[.slice (some ⟨b, 0, none⟩) N c, .slice (some ⟨T, 0, none⟩) N N] ∧ RowAt N f w1 W b ∧ b < T ∧ Blk W T (madeCells #[.slice none 0 0] N) 32
 else vs[k]? = some v
theorem restE_keep {vs : List Value} {N : Nat} {f : Nat → Int} {w1 : World} {k : Nat} {v : Value} {W W' : World} (hb : Below W.heap.size W W') (h : restE vs N f w1 k v W) : restE vs N f w1 k v W' := by
 unfold restE at h ⊢
 split
 ·next e =>
  rw [if_pos e] at h
  obtain ⟨b, c, h1, h2⟩ := h
  exact ⟨b, c, h1, h2.keep hb⟩
 ·next e =>
  rw [if_neg e] at h
  split
  ·next e2 =>
   rw [if_pos e2] at h
   obtain ⟨b, c, T, h1, h2, h3, h4⟩ := h
   exact ⟨b, c, T, h1, h2.keep hb, h3, h4.below hb h4.lt⟩
  ·next e2 =>
   rw [if_neg e2] at h
   exact h
theorem restE_get {vs : List Value} {N : Nat} {f : Nat → Int} {w1 : World} {k : Nat} {v u : Value} {W : World} (h : restE vs N f w1 k v W) (hk : k ≠ 7 ∧ k ≠ 8) (hu : vs[k]? = some u) : v = u := by
 unfold restE at h
 rw [if_neg hk.1, if_neg hk.2, hu] at h
 exact (Option.some.inj h).symm

set_option maxHeartbeats 4000000 in
theorem restart_ok (n : NetM) (base P N i : Nat) (ra : Option Addr) (rc rb ro : Nat) (f : Nat → Int) (e : Eng) (Bv : Value) (y : Lay) (w : World) (hN : n.nodes = N) (hN6 : N ≤ 6) (hN0 : 0 < N) (hL : Live base P N e Bv y w) (hr : Ints ra N rb ro f w) (hrb : rb < w.heap.size) (hok : rowIn N f n.a.size = true) (hi : i < N) :
  Calls Tryz.prog 74 #[n.val, .pointer (some ⟨P, 0, none⟩), .int .i64 i, .slice ra N rc] w fun r w' => r = .returned (.int .i64 0) ∧ (∃ y', Live base P N (e.restart i f) Bv y' w') ∧ Below base w w' := by
 have hbw : base ≤ w.heap.size := Nat.le_of_lt (Nat.lt_of_le_of_lt hL.lp hL.head.lt)
 obtain ⟨W1, hW1⟩ : ∃ W1, W1 = w.alloc (.cells n.cells 27) := ⟨_, rfl⟩
 have hB1 : Below w.heap.size w W1 := by rw [hW1]; exact (Below.refl _ w).alloc (Nat.le_refl _) _
 have b3 : Blk W1 w.heap.size n.cells 27 := by rw [hW1]; exact Blk.new w _ _
 have hcells : n.cells = #[.int .i64 n.a.size, .slice n.a.B.ga n.a.B.t.len n.a.B.cap, .slice n.a.E.ga n.a.E.t.len n.a.E.cap, .int .i64 N, .slice n.la n.ln n.lc] := by simp only [NetM.cells, Mat.val, hN]
 have hr1 := hr.below hB1 (fun _ => hrb)
 have hrb1 : rb < W1.heap.size := Nat.lt_of_lt_of_le hrb hB1.size
 have HS := hide (sallBelow_any ra N rc rb ro f n.a.size W1 hr1 (fun _ => hrb1))
 rw [hok] at HS
 have HL1 := hide (hL.below hB1)
 have HL0 := hide hL
 have HB1 := hide hB1
 have Hb3 := hide b3
 have Hr1 := hide hr1
 have Hcells := hide hcells
 have Hbw := hide hbw
 have HUn := hide (fun (q : Nat) (c : Nat) W => untold_any n (some ⟨q, 0, none⟩) N c N W hN hN6)
 rw [hcells] at hW1
 have HW1 := hide hW1
 rw [hW1] at HS
 rw [NetM.val, hcells]
 have hii : (i : Int) < (N : Int) := by omega
 clear hL hbw hB1 hcells hN hr hrb hok b3 hW1 hr1
 go_enter Tryz.func74, Tryz.ntmps74
 go_wp2_with fail
 go_at_call 58
 refine HS.out.mono ?_
 rw [← HW1.out]
 rintro r w2 ⟨rfl, hb2⟩
 have HG0 : Hid (RestG base P N n w.heap.size e Bv y W1 w2) := hide ⟨HL1.out.below hb2, Hb3.out.below hb2 Hb3.out.lt, hb2⟩
 have HCl := hide (fun W (hb : Below W1.heap.size W1 W) => clone_any ra N rc rb ro f W (Hr1.out.below hb (fun _ => hrb1)) hN0 (by omega) (Nat.lt_of_lt_of_le hrb1 hb.size))
 clear hb2 HS
 go_wp2
 refine wp_region_last 10 _ (RestG base P N n w.heap.size e Bv y W1) (restE [.pointer (some ⟨P, 0, none⟩), .pointer (some ⟨P, 0, none⟩), .pointer (some ⟨P, 0, none⟩), .slice (some ⟨y.G, 0, none⟩) N y.gc, .int .i64 (i : Int), n.val, .slice ra N rc, undef, undef, .pointer (some ⟨y.G, i * 2, none⟩)] N f W1) (fun _ W => (∃ y', Live base P N (e.restart i f) Bv y' W) ∧ Below base w W) (fun _ _ _ => True) (by kernel_rfl) (by kernel_rfl) (by kernel_rfl) (by kernel_rfl) (by kernel_rfl) rfl (HG0.out.keep ⟨rfl, rfl, rfl, Nat.le_refl _, fun _ _ => rfl⟩) ⟨?_, ?_, ?_, ?_, ?_, ?_, ?_, ?_, ?_, ?_, trivial⟩ ?_ trivial ?_
 rotate_right
 ·intro t W hG _
  have HG := hide hG
  clear hG
  simp only [fill, Act.put, List.setIfInBounds_toArray, List.set_cons_zero, List.set_cons_succ]
  go_wp2
  go_ret
  exact ⟨rfl, HG.out.1, HG.out.2⟩
 rotate_right
 ·intro t W hG hE _ K hK
  have e9 := restE_get (hE 9 (by omega)) (by decide) rfl
  have h8 : ∃ b c T : Nat, t 8 = .agg #[.slice (some ⟨b, 0, none⟩) N c, .slice (some ⟨T, 0, none⟩) N N] ∧ RowAt N f W1 W b ∧ b < T ∧ Blk W T (madeCells #[.slice none 0 0] N) 32 := hE 8 (by omega)
  simp only [fill, Act.put, List.setIfInBounds_toArray, List.set_cons_zero, List.set_cons_succ, e9] at hK ⊢
  rw [if_pos (by rfl)]
  obtain ⟨b, c, T, e8, hb, hbT, hT⟩ := h8
  have hl1 := HL1.out
  have hnew : ∀ q, W1.heap.size ≤ q → q < W.heap.size → y.Off P N Bv W q := fun q h1 h2 => ⟨by have := hl1.head.lt; omega, by have := hl1.rtrs.lt; omega, fun k hk => by have := (hl1.tolds k hk).lt; omega, fun hv => by have := (hl1.bag.lt _ hv).2; omega, h2, by have := hl1.ylo; have := hl1.head.lt; omega⟩
  have hset := hG.live.setRouter (c := c) (tc := N) hi f (hnew b hb.1 hb.2.1) hb.2.2 hT (fun k hk => made_nil hk) (hnew T (by have := hb.1; omega) hT.lt) (by omega) (by have := hb.1; have := HB1.out.size; have := Hbw.out; omega) (fun r hr => by have := (hl1.routes r hr).1.lt; have := hb.1; omega) (fun r k hr hk ht => by have := (hl1.rows r hr k hk ht).2.1.lt; have := hb.1; omega)
  have c1 := hG.live.rtrs.cell (i * 2)
  rw [hG.live.r0 i hi] at c1
  have cf := hG.live.rtrs.frozen (i * 2)
  have c2 := hG.live.rtrs.cell (i * 2 + 1)
  rw [hG.live.r1 i hi] at c2
  have cg := hG.live.rtrs.frozen (i * 2 + 1)
  have hBw : Below base w ((W.setCell ⟨y.G, i * 2, none⟩ (.slice (some ⟨b, 0, none⟩) N c)).setCell ⟨y.G, i * 2 + 1, none⟩ (.slice (some ⟨T, 0, none⟩) N N)) := (((HB1.out.mono Hbw.out).trans (hG.below.mono (Nat.le_trans Hbw.out HB1.out.size))).setCell (p := ⟨y.G, i * 2, none⟩) hG.live.lg _).setCell (p := ⟨y.G, i * 2 + 1, none⟩) hG.live.lg _
  have HN' := hide (And.intro hset hBw)
  simp only [e8] at hK ⊢
  clear hset hBw hnew hT hb hbT e8 e9 hE
  go_simp
  exact hK undef _ HN'.out
 all_goals intro t W hG hp ht K hK
 all_goals clear ht
 all_goals simp only [fill, Act.put, List.setIfInBounds_toArray, List.set_cons_zero, List.set_cons_succ] at hK ⊢
 ·rw [if_pos (by rfl)]
  go_simp
  exact hK _ _ hG rfl (fun _ _ _ h => h)
 ·have e0 := restE_get (hp 0 (by decide)) (by decide) rfl
  simp only [e0] at hK ⊢
  rw [if_pos (by rfl)]
  go_simp
  exact hK _ _ hG rfl (fun _ _ _ h => h)
 ·have e1 := restE_get (hp 1 (by decide)) (by decide) rfl
  simp only [e1] at hK ⊢
  rw [if_pos (by rfl)]
  go_simp
  exact hK _ _ hG rfl (fun _ _ _ h => h)
 ·have e2 := restE_get (hp 2 (by decide)) (by decide) rfl
  have c0 := hG.live.head.cell 0
  simp at c0
  simp only [e2] at hK ⊢
  rw [if_pos (by rfl)]
  go_simp
  exact hK _ _ hG rfl (fun _ _ _ h => h)
 ·rw [if_pos (by rfl)]
  go_simp
  exact hK _ _ hG rfl (fun _ _ _ h => h)
 ·have x0 := hG.net.cell 0
  have x1 := hG.net.cell 1
  have x2 := hG.net.cell 2
  have x3 := hG.net.cell 3
  have x4 := hG.net.cell 4
  simp [Hcells.out] at x0 x1 x2 x3 x4
  rw [if_pos (by rfl)]
  go_simp
  exact hK _ _ hG (by show some n.val = _; rw [NetM.val, Hcells.out]) (fun _ _ _ h => h)
 ·rw [if_pos (by rfl)]
  go_simp
  exact hK _ _ hG rfl (fun _ _ _ h => h)
 ·have e6 := restE_get (hp 6 (by decide)) (by decide) rfl
  simp only [e6] at hK ⊢
  rw [if_pos (by rfl)]
  go_simp
  go_at_call 43
  refine (HCl.out W hG.below).mono ?_
  rintro r W' ⟨q, c, rfl, hb, h1, h2, h3⟩
  go_simp
  exact hK _ W' (hG.keep hb) ⟨q, c, rfl, by have := hG.below.size; omega, h2, h3⟩ (fun _ _ _ h => restE_keep hb h)
 ·have e5 := restE_get (hp 5 (by decide)) (by decide) rfl
  have h7 : ∃ b c : Nat, t 7 = .slice (some ⟨b, 0, none⟩) N c ∧ RowAt N f W1 W b := hp 7 (by decide)
  obtain ⟨b, c, e7, hb⟩ := h7
  rw [NetM.val, Hcells.out] at e5
  simp only [e7] at hK ⊢
  simp only [e5] at hK ⊢
  rw [if_pos (by rfl)]
  go_simp
  go_at_call 21
  have HUn := hide (HUn.out b c W)
  rw [NetM.val, Hcells.out] at HUn
  refine HUn.out.mono ?_
  rintro r W' ⟨⟨T, rfl, h1, h2⟩, hbw⟩
  go_simp
  exact hK _ W' (hG.keep hbw) ⟨b, c, T, rfl, hb.keep hbw, by have := hb.2.1; omega, h2⟩ (fun _ _ _ h => restE_keep hbw h)
 ·have e3 := restE_get (hp 3 (by decide)) (by decide) rfl
  have e4 := restE_get (hp 4 (by decide)) (by decide) rfl
  simp only [e3, e4] at hK ⊢
  rw [if_pos (by rfl)]
  go_simp
  exact hK _ _ hG rfl (fun _ _ _ h => h)

end Go.Proofs.YtjhkadffaephmabGreat

/-
  An engine that is copied, router by router.
-/
namespace Go.Proofs.YtjhkadffaephmabGreat
set_option maxRecDepth 100000
open Go.RowKit

/-- A block of its own, that no store goes to: behind mid, and none of those that hold what was told. -/
structure Lay.Far (y : Lay) (mid k : Nat) (W : World) (b : Nat) : Prop where
  lo : mid ≤ b
  lt : b < W.heap.size
  t : ∀ q, q < k → b ≠ y.Tb q

/-- So many routers are copied. -/
structure Parts (mid N : Nat) (e : Eng) (y : Lay) (k : Nat) (W : World) : Prop where
  rtrs : Blk W y.G y.vs 59
  size : y.vs.size = N * 2
  g : y.G < mid
  r0 : ∀ i, i < k → y.vs[i * 2]? = some (.slice (some ⟨y.rb i, 0, none⟩) N (y.rc i))
  r1 : ∀ i, i < k → y.vs[i * 2 + 1]? = some (.slice (some ⟨y.Tb i, 0, none⟩) N (y.Tc i))
  tolds : ∀ i, i < k → Blk W (y.Tb i) (y.vt i) 32
  t0 : ∀ i, i < k → ∀ q, q < N → (y.vt i)[q]? = some (.slice (y.ta i q) (if e.told i q = true then N else 0) (y.tc i q))
  routes : ∀ i, i < k → y.Far mid k W (y.rb i) ∧ ∀ j, j < N → W.cell? ⟨y.rb i, j, none⟩ = some (.int .i64 (e.R i j))
  rows : ∀ i, i < k → ∀ q, q < N → e.told i q = true → y.ta i q = some ⟨y.db i q, y.dn i q, none⟩ ∧ y.Far mid k W (y.db i q) ∧ ∀ j, j < N → W.cell? ⟨y.db i q, y.dn i q + j, none⟩ = some (.int .i64 (e.D i q j))
  lt : ∀ i, i < k → mid ≤ y.Tb i
  tt : ∀ i q, i < k → q < k → i ≠ q → y.Tb i ≠ y.Tb q
  ylo : y.lo = y.G

theorem Lay.Far.keep {y : Lay} {mid k : Nat} {W W' : World} {b : Nat} (h : y.Far mid k W b) (hs : W.heap.size ≤ W'.heap.size) : y.Far mid k W' b := ⟨h.lo, Nat.lt_of_lt_of_le h.lt hs, h.t⟩

theorem Parts.below {mid N : Nat} {e : Eng} {y : Lay} {k : Nat} {W W' : World} (h : Parts mid N e y k W) (hb : Below W.heap.size W W') : Parts mid N e y k W' where
  rtrs := h.rtrs.below hb h.rtrs.lt
  size := h.size
  g := h.g
  r0 := h.r0
  r1 := h.r1
  tolds := fun i hi => (h.tolds i hi).below hb (h.tolds i hi).lt
  t0 := h.t0
  routes := fun i hi => ⟨(h.routes i hi).1.keep hb.size, fun j hj => by rw [hb.cell (p := ⟨y.rb i, j, none⟩) (h.routes i hi).1.lt]; exact (h.routes i hi).2 j hj⟩
  rows := fun i hi q hq ht => ⟨(h.rows i hi q hq ht).1, (h.rows i hi q hq ht).2.1.keep hb.size, fun j hj => by rw [hb.cell (p := ⟨y.db i q, y.dn i q + j, none⟩) (h.rows i hi q hq ht).2.1.lt]; exact (h.rows i hi q hq ht).2.2 j hj⟩
  lt := h.lt
  tt := h.tt
  ylo := h.ylo

/-- The rows of what was told, with functions. -/
theorem CopT.funs {lo T N : Nat} {x : Mat} {vt : Array Value} {W : World} (h : CopT lo T N x vt N W) : ∃ F : Nat → Option Addr × Nat × Nat, ∀ r, r < N → vt[r]? = some (.slice (F r).1 (x.t.L r) (F r).2.1) ∧ Ints (F r).1 (x.t.L r) (F r).2.2 0 (x.t.Z r) W ∧ (0 < x.t.L r → lo ≤ (F r).2.2 ∧ (F r).2.2 < W.heap.size ∧ (F r).2.2 ≠ T) := by
  have h2 : ∀ r, ∃ t : Option Addr × Nat × Nat, r < N → vt[r]? = some (.slice t.1 (x.t.L r) t.2.1) ∧ Ints t.1 (x.t.L r) t.2.2 0 (x.t.Z r) W ∧ (0 < x.t.L r → lo ≤ t.2.2 ∧ t.2.2 < W.heap.size ∧ t.2.2 ≠ T) := fun r => by
    by_cases hr : r < N
    · obtain ⟨a, c, b, h1⟩ := h.row r hr
      exact ⟨(a, c, b), fun _ => h1⟩
    · exact ⟨(none, 0, 0), fun h0 => absurd h0 hr⟩
  obtain ⟨F, hF⟩ := Classical.axiomOfChoice h2
  exact ⟨F, fun r hr => hF r hr⟩

/-- The next router is copied. -/
theorem Parts.put {mid N : Nat} {e : Eng} {y : Lay} {k : Nat} {W : World} (h : Parts mid N e y k W) (hk : k < N) {x : Mat} {vt : Array Value} {lo b c T tc : Nat} (hlo : mid ≤ lo) (hnew : ∀ i, i < k → y.Tb i < lo) (hnew2 : ∀ i, i < k → y.rb i < lo) (hnew3 : ∀ i, i < k → ∀ q, q < N → e.told i q = true → y.db i q < lo)
    (hb : lo ≤ b) (hb2 : b < W.heap.size) (hbc : ∀ j, j < N → W.cell? ⟨b, j, none⟩ = some (.int .i64 (e.R k j))) (hbT : b ≠ T) (hT : lo ≤ T) (hc : CopT lo T N x vt N W)
    (hw : ∀ q, q < N → x.t.L q = if e.told k q = true then N else 0) (hz : ∀ q, q < N → x.t.Z q = e.D k q) (hN : 0 < N) :
    ∃ y', Parts mid N e y' (k + 1) ((W.setCell ⟨y.G, k * 2, none⟩ (.slice (some ⟨b, 0, none⟩) N c)).setCell ⟨y.G, k * 2 + 1, none⟩ (.slice (some ⟨T, 0, none⟩) N tc)) ∧ y'.G = y.G ∧ y'.gc = y.gc := by
  obtain ⟨F, hF⟩ := hc.funs
  obtain ⟨W2, hW2⟩ : ∃ W2, W2 = (W.setCell ⟨y.G, k * 2, none⟩ (.slice (some ⟨b, 0, none⟩) N c)).setCell ⟨y.G, k * 2 + 1, none⟩ (.slice (some ⟨T, 0, none⟩) N tc) := ⟨_, rfl⟩
  have hG := h.g
  have hws : W2.heap.size = W.heap.size := by rw [hW2]; simp
  have hcell : ∀ q j, mid ≤ q → W2.cell? ⟨q, j, none⟩ = W.cell? ⟨q, j, none⟩ := fun q j hq => by rw [hW2, cell_other (show q ≠ y.G by omega), cell_other (show q ≠ y.G by omega)]
  have hblk : ∀ q cs t, mid ≤ q → Blk W q cs t → Blk W2 q cs t := fun q cs t hq hb => by rw [hW2]; exact (hb.other (show q ≠ y.G by omega) _ _).other (show q ≠ y.G by omega) _ _
  obtain ⟨y', hy'⟩ : ∃ y' : Lay, y' = { y with vs := (y.vs.setIfInBounds (k * 2) (.slice (some ⟨b, 0, none⟩) N c)).setIfInBounds (k * 2 + 1) (.slice (some ⟨T, 0, none⟩) N tc), rb := fun r => if r = k then b else y.rb r, rc := fun r => if r = k then c else y.rc r, Tb := fun r => if r = k then T else y.Tb r, Tc := fun r => if r = k then tc else y.Tc r, vt := fun r => if r = k then vt else y.vt r, ta := fun r q => if r = k then (F q).1 else y.ta r q, tc := fun r q => if r = k then (F q).2.1 else y.tc r q, db := fun r q => if r = k then (F q).2.2 else y.db r q, dn := fun r q => if r = k then 0 else y.dn r q } := ⟨_, rfl⟩
  have hTb : ∀ r, y'.Tb r = if r = k then T else y.Tb r := fun r => by rw [hy']
  have hfar : ∀ q, y.Far mid k W q → q < lo → y'.Far mid (k + 1) W2 q := fun q hq hql => ⟨hq.lo, by rw [hws]; exact hq.lt, fun r hr => by
    rw [hTb]
    split
    · omega
    · exact hq.t r (by omega)⟩
  have hfarn : ∀ q, lo ≤ q → q < W.heap.size → q ≠ T → y'.Far mid (k + 1) W2 q := fun q h1 h2 h3 => ⟨by omega, by rw [hws]; exact h2, fun r hr => by
    rw [hTb]
    split
    · exact h3
    · have := hnew r (by omega); omega⟩
  rw [← hW2]
  refine ⟨y', ⟨?_, ?_, ?_, fun r hr => ?_, fun r hr => ?_, fun r hr => ?_, fun r hr q hq => ?_, fun r hr => ?_, fun r hr q hq ht => ?_, fun r hr => ?_, fun r q hr hq hne => ?_, by rw [hy']; exact h.ylo⟩, by rw [hy'], by rw [hy']⟩
  · have := (h.rtrs.set (k * 2) (.slice (some ⟨b, 0, none⟩) N c)).set (k * 2 + 1) (.slice (some ⟨T, 0, none⟩) N tc)
    rw [hy', hW2]; exact this
  · rw [hy']; simpa using h.size
  · rw [hy']; exact h.g
  · rw [hy']
    show ((y.vs.setIfInBounds (k * 2) _).setIfInBounds (k * 2 + 1) _)[r * 2]? = some (.slice (some ⟨if r = k then b else y.rb r, 0, none⟩) N (if r = k then c else y.rc r))
    rw [Array.getElem?_setIfInBounds_ne (by omega)]
    by_cases e1 : r = k
    · subst e1
      have := h.size
      rw [if_pos rfl, if_pos rfl, Array.getElem?_setIfInBounds_self_of_lt (by omega)]
    · rw [if_neg e1, if_neg e1, Array.getElem?_setIfInBounds_ne (by omega)]
      exact h.r0 r (by omega)
  · rw [hy']
    show ((y.vs.setIfInBounds (k * 2) _).setIfInBounds (k * 2 + 1) _)[r * 2 + 1]? = some (.slice (some ⟨if r = k then T else y.Tb r, 0, none⟩) N (if r = k then tc else y.Tc r))
    by_cases e1 : r = k
    · subst e1
      have := h.size
      rw [if_pos rfl, if_pos rfl, Array.getElem?_setIfInBounds_self_of_lt (by simp; omega)]
    · rw [if_neg e1, if_neg e1, Array.getElem?_setIfInBounds_ne (by omega), Array.getElem?_setIfInBounds_ne (by omega)]
      exact h.r1 r (by omega)
  · rw [hy']
    show Blk W2 (if r = k then T else y.Tb r) (if r = k then vt else y.vt r) _
    by_cases e1 : r = k
    · rw [if_pos e1, if_pos e1]
      exact hblk T _ _ (by omega) hc.blk
    · rw [if_neg e1, if_neg e1]
      exact hblk _ _ _ (h.lt r (by omega)) (h.tolds r (by omega))
  · rw [hy']
    show (if r = k then vt else y.vt r)[q]? = some (.slice (if r = k then (F q).1 else y.ta r q) (if e.told r q = true then N else 0) (if r = k then (F q).2.1 else y.tc r q))
    by_cases e1 : r = k
    · subst e1
      rw [if_pos rfl, if_pos rfl, if_pos rfl, ← hw q hq]
      exact (hF q hq).1
    · rw [if_neg e1, if_neg e1, if_neg e1]
      exact h.t0 r (by omega) q hq
  · have hrb : y'.rb r = if r = k then b else y.rb r := by rw [hy']
    rw [hrb]
    by_cases e1 : r = k
    · subst e1
      rw [if_pos rfl]
      exact ⟨hfarn b hb hb2 hbT, fun j hj => by rw [hcell _ _ (by omega)]; exact hbc j hj⟩
    · rw [if_neg e1]
      obtain ⟨h1, h2⟩ := h.routes r (by omega)
      exact ⟨hfar _ h1 (hnew2 r (by omega)), fun j hj => by rw [hcell _ _ h1.lo]; exact h2 j hj⟩
  · have e2 : y'.ta r q = if r = k then (F q).1 else y.ta r q := by rw [hy']
    have e3 : y'.db r q = if r = k then (F q).2.2 else y.db r q := by rw [hy']
    have e4 : y'.dn r q = if r = k then 0 else y.dn r q := by rw [hy']
    rw [e2, e3, e4]
    by_cases e1 : r = k
    · subst e1
      rw [if_pos rfl, if_pos rfl, if_pos rfl]
      obtain ⟨h1, h2, h3⟩ := hF q hq
      have hL := hw q hq
      rw [if_pos ht] at hL
      have h0 : 0 < x.t.L q := by omega
      refine ⟨h2.addr h0, hfarn _ (h3 h0).1 (h3 h0).2.1 (h3 h0).2.2, fun j hj => ?_⟩
      rw [hcell _ _ (by have := (h3 h0).1; omega), h2.cell j (by omega), hz q hq]
    · simp only [if_neg e1]
      obtain ⟨h1, h2, h3⟩ := h.rows r (by omega) q hq ht
      exact ⟨h1, hfar _ h2 (hnew3 r (by omega) q hq ht), fun j hj => by rw [hcell _ _ h2.lo]; exact h3 j hj⟩
  · rw [hTb]; split
    · omega
    · exact h.lt r (by omega)
  · rw [hTb, hTb]
    by_cases e1 : r = k
    · rw [if_pos e1, if_neg (by omega)]
      have := hnew q (by omega); omega
    · rw [if_neg e1]
      by_cases e2 : q = k
      · rw [if_pos e2]; have := hnew r (by omega); omega
      · rw [if_neg e2]; exact h.tt r q (by omega) (by omega) hne

/-- A copy, with its head, is an engine that may be changed. -/
theorem Parts.live {base mid N : Nat} {e : Eng} {y : Lay} {Bv : Value} {W : World} (h : Parts mid N e y N W) (hbag : W.ownsRow base 69 3 Bv e.bag.length (mailsL e.bag)) (hbm : ∀ g, Bv.ownBlock = some g → g < mid ∧ g ≠ y.G) (hbw : base ≤ W.heap.size) (hg : base ≤ y.G) :
    Live base W.heap.size N e Bv y (W.alloc (.cells #[.slice (some ⟨y.G, 0, none⟩) N y.gc, Bv] 31)) := by
  obtain ⟨W2, hW2⟩ : ∃ W2, W2 = W.alloc (.cells #[.slice (some ⟨y.G, 0, none⟩) N y.gc, Bv] 31) := ⟨_, rfl⟩
  have hb : Below W.heap.size W W2 := by rw [hW2]; exact (Below.refl _ W).alloc (Nat.le_refl _) _
  have h2 := h.below hb
  have hG := h.g
  have hGl := h.rtrs.lt
  have hoff : ∀ q, y.Far mid N W q → y.Off W.heap.size N Bv W2 q := fun q hq => ⟨by have := hq.lt; omega, by have := hq.lo; omega, hq.t, fun hv => by have := hbm q hv; have := hq.lo; omega, Nat.lt_of_lt_of_le hq.lt hb.size, by have := h.ylo; have := hq.lo; omega⟩
  have hown : W2.ownsRow base 69 3 Bv e.bag.length (mailsL e.bag) := owns_below hbag hb
  have hhead : Blk W2 W.heap.size #[.slice (some ⟨y.G, 0, none⟩) N y.gc, Bv] 31 := by rw [hW2]; exact Blk.new W _ _
  rw [← hW2]
  exact ⟨hhead, h2.rtrs, h2.r0, h2.r1, h2.tolds, h2.t0, fun i hi => ⟨hoff _ (h.routes i hi).1, (h2.routes i hi).2⟩, fun i hi q hq ht => ⟨(h.rows i hi q hq ht).1, hoff _ (h.rows i hi q hq ht).2.1, (h2.rows i hi q hq ht).2.2⟩, hown, hbw, hg, fun i hi => by have := h.lt i hi; omega, by omega, fun i hi => by have := (h.tolds i hi).lt; omega, fun i hi => by have := h.lt i hi; omega, h.tt, fun g hg' => ⟨by have := (hbag.lt g hg').2; omega, (hbm g hg').2, fun i hi => by have := hbm g hg'; have := h.lt i hi; omega⟩, by have := h.ylo; omega⟩

end Go.Proofs.YtjhkadffaephmabGreat

/-
  Engines that pass Check, and what an engine that was changed is.
-/
namespace Go.Proofs.YtjhkadffaephmabGreat
set_option maxRecDepth 100000
open Go.RowKit

/-- What an engine that passes Check has. -/
structure EngM.Right (x : EngM) (n : Net) (N : Nat) : Prop where
  check : n.check = 0
  gn : x.rs.gn = N
  rl : ∀ i, i < N → (x.rs.r i).rl = N
  tl : ∀ i, i < N → (x.rs.r i).T.t.len = N
  ll : ∀ i, i < N → ∀ q, q < N → (x.rs.r i).T.t.L q = if x.eng.told i q = true then N else 0
  bn : x.bag.bn ≤ 120
  fit : x.eng.Fit n

theorem EngM.right {x : EngM} {n : Net} {N : Nat} (h : x.err n = 0) (hN : n.nodes = (N : Int)) : x.Right n N := by
  unfold EngM.err at h
  split at h
  · next h1 => exact absurd h h1
  next hck0 =>
  have hck : n.check = 0 := by omega
  split at h
  · next h1 => exact absurd h h1
  next hrs0 =>
  have hrs : x.rs.err n = 0 := by omega
  have g := Net.good_of_check hck
  have hNN : n.N = N := by unfold Net.N; omega
  have hlo := g.lo
  unfold RtrsM.err at hrs
  split at hrs
  · exact absurd hrs (by decide)
  next hsh =>
  split at hrs
  · exact absurd hrs (by decide)
  next hso =>
  have hgn : x.rs.gn = N := by
    have : (x.rs.gn : Int) = n.nodes := by
      rcases Decidable.em ((x.rs.gn : Int) = n.nodes) with h1 | h1
      · exact h1
      · exact absurd (Or.inl h1) hsh
    omega
  have hshaped : ∀ i, i < N → (x.rs.r i).shaped n.nodes = true := fun i hi => by
    cases hs : (x.rs.r i).shaped n.nodes with
    | true => rfl
    | false => exact absurd (Or.inr (List.any_eq_true.2 ⟨i, by simpa using (by omega : i < x.rs.gn), by rw [hs]; rfl⟩)) hsh
  have hsound : ∀ i, i < N → (x.rs.r i).sound n.a.size = true := fun i hi => by
    cases hs : (x.rs.r i).sound n.a.size with
    | true => rfl
    | false => exact absurd (List.any_eq_true.2 ⟨i, by simpa using (by omega : i < x.rs.gn), by rw [hs]; rfl⟩) hso
  have hpart : ∀ i, i < N → (x.rs.r i).rl = N ∧ (x.rs.r i).T.t.len = N ∧ ∀ q, q < N → (x.rs.r i).T.t.L q = 0 ∨ (x.rs.r i).T.t.L q = N := fun i hi => by
    have := hshaped i hi
    unfold RtrM.shaped at this
    simp only [Bool.and_eq_true, beq_iff_eq, List.all_eq_true, List.mem_range, Bool.not_eq_true', Bool.and_eq_false_iff, bne_eq_false_iff_eq] at this
    obtain ⟨⟨h1, h2⟩, h3⟩ := this
    refine ⟨by omega, by omega, fun q hq => ?_⟩
    rcases h3 q (by omega) with h4 | h4
    · left; omega
    · right; omega
  have hll : ∀ i, i < N → ∀ q, q < N → (x.rs.r i).T.t.L q = if x.eng.told i q = true then N else 0 := fun i hi q hq => by
    show _ = if decide ((x.rs.r i).T.t.L q ≠ 0) = true then N else 0
    rcases (hpart i hi).2.2 q hq with h1 | h1
    · rw [h1]; simp
    · rw [h1, if_pos (by simp; omega)]
  have hsnd : ∀ i, i < N → (∀ j, j < N → 0 ≤ (x.rs.r i).R j ∧ (x.rs.r i).R j < n.a.size) ∧ ∀ q, q < N → ∀ j, j < (x.rs.r i).T.t.L q → 0 ≤ (x.rs.r i).T.t.Z q j ∧ (x.rs.r i).T.t.Z q j < n.a.size := fun i hi => by
    have := hsound i hi
    unfold RtrM.sound at this
    simp only [Bool.and_eq_true, List.all_eq_true, List.mem_range, rowIn_iff] at this
    obtain ⟨h1, h2⟩ := this
    obtain ⟨h3, h4, _⟩ := hpart i hi
    exact ⟨fun j hj => h1 j (by omega), fun q hq => h2 q (by omega)⟩
  unfold BagM.err at h
  split at h
  · exact absurd h (by decide)
  next hb1 =>
  split at h
  · exact absurd h (by decide)
  next hb2 =>
  split at h
  · exact absurd h (by decide)
  next hb3 =>
  have hbn : x.bag.bn ≤ 120 := by omega
  refine ⟨hck, hgn, fun i hi => (hpart i hi).1, fun i hi => (hpart i hi).2.1, hll, hbn, ⟨fun i j hi hj => ?_, fun i k j hi hk hj ht => ?_, ?_, fun m hm => ?_⟩⟩
  · rw [hNN] at hi hj
    exact (hsnd i hi).1 j hj
  · rw [hNN] at hi hk hj
    refine (hsnd i hi).2 k hk j ?_
    rw [hll i hi k hk, if_pos ht]
    exact hj
  · show ((List.range x.bag.bn).map x.bag.M).length ≤ 120
    simpa using hbn
  · have hm' : m ∈ (List.range x.bag.bn).map x.bag.M := hm
    simp only [List.mem_map, List.mem_range] at hm'
    obtain ⟨i, hi, rfl⟩ := hm'
    have h2 : ¬ ((List.range x.bag.bn).any fun i => !(decide (0 ≤ (x.bag.M i).F) && decide ((x.bag.M i).F < n.nodes)) || !(decide (0 ≤ (x.bag.M i).T) && decide ((x.bag.M i).T < n.nodes))) = true := hb2
    have h3 : ¬ ((List.range x.bag.bn).any fun i => decide (60 < (x.bag.M i).b.length)) = true := hb3
    have k2 : (!(decide (0 ≤ (x.bag.M i).F) && decide ((x.bag.M i).F < n.nodes)) || !(decide (0 ≤ (x.bag.M i).T) && decide ((x.bag.M i).T < n.nodes))) = false := by
      cases hc : (!(decide (0 ≤ (x.bag.M i).F) && decide ((x.bag.M i).F < n.nodes)) || !(decide (0 ≤ (x.bag.M i).T) && decide ((x.bag.M i).T < n.nodes))) with
      | false => rfl
      | true => exact absurd (List.any_eq_true.2 ⟨i, by simpa using hi, hc⟩) h2
    have k3 : decide (60 < (x.bag.M i).b.length) = false := by
      cases hc : decide (60 < (x.bag.M i).b.length) with
      | false => rfl
      | true => exact absurd (List.any_eq_true.2 ⟨i, by simpa using hi, hc⟩) h3
    simp at k2 k3
    exact ⟨k2.1, k2.2, by omega⟩

theorem EngM.of_right {x : EngM} {n : Net} {N : Nat} (h : x.Right n N) (hN : n.nodes = (N : Int)) : x.err n = 0 := by
  have g := Net.good_of_check h.check
  have hNN : n.N = N := by unfold Net.N; omega
  have h1 : x.rs.err n = 0 := by
    unfold RtrsM.err
    rw [if_neg, if_neg]
    · intro hh
      obtain ⟨i, hi, hf⟩ := List.any_eq_true.1 hh
      have hi' : i < N := by have := List.mem_range.1 hi; rw [h.gn] at this; exact this
      have : (x.rs.r i).sound n.a.size = true := by
        unfold RtrM.sound
        simp only [Bool.and_eq_true, List.all_eq_true, List.mem_range, rowIn_iff]
        rw [h.rl i hi', h.tl i hi']
        refine ⟨fun j hj => h.fit.R i j (by omega) (by omega), fun q hq j hj => ?_⟩
        rw [h.ll i hi' q hq] at hj
        split at hj
        · next ht => exact h.fit.D i q j (by omega) (by omega) (by omega) ht
        · exact absurd hj (Nat.not_lt_zero _)
      rw [this] at hf; cases hf
    · intro hh
      rcases hh with hh | hh
      · rw [h.gn] at hh; omega
      · obtain ⟨i, hi, hf⟩ := List.any_eq_true.1 hh
        have hi' : i < N := by have := List.mem_range.1 hi; rw [h.gn] at this; exact this
        have : (x.rs.r i).shaped n.nodes = true := by
          unfold RtrM.shaped
          simp only [Bool.and_eq_true, beq_iff_eq, List.all_eq_true, List.mem_range, Bool.not_eq_true', Bool.and_eq_false_iff, bne_eq_false_iff_eq]
          rw [h.rl i hi', h.tl i hi']
          refine ⟨⟨by omega, by omega⟩, fun q hq => ?_⟩
          rw [h.ll i hi' q hq]
          split
          · right; omega
          · left; rfl
        rw [this] at hf; cases hf
  have h2 : x.bag.err n = 0 := by
    have hm : ∀ i, i < x.bag.bn → (0 ≤ (x.bag.M i).F ∧ (x.bag.M i).F < n.nodes) ∧ (0 ≤ (x.bag.M i).T ∧ (x.bag.M i).T < n.nodes) ∧ (x.bag.M i).b.length ≤ 60 := fun i hi => h.fit.mail _ (List.mem_map.2 ⟨i, List.mem_range.2 hi, rfl⟩)
    unfold BagM.err
    rw [if_neg (by have := h.bn; omega), if_neg, if_neg]
    · intro hh
      obtain ⟨i, hi, hf⟩ := List.any_eq_true.1 hh
      have := hm i (List.mem_range.1 hi)
      simp at hf
      omega
    · intro hh
      obtain ⟨i, hi, hf⟩ := List.any_eq_true.1 hh
      have := hm i (List.mem_range.1 hi)
      simp at hf
      omega
  unfold EngM.err
  rw [if_neg (by have := h.check; omega), if_neg (by omega), h2]

end Go.Proofs.YtjhkadffaephmabGreat
