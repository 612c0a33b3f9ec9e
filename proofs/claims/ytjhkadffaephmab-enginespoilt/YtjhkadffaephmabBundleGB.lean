/-
  Our own texts, bundled: a claim holds few files.
-/
import Derived.Test.YtjhkadffaephmabBundleFJ
import Derived.Test.YtjhkadffaephmabBundleFI
import Derived.Test.YtjhkadffaephmabBundleBG
import Derived.Test.YtjhkadffaephmabBundleCI
import Derived.Test.YtjhkadffaephmabBundleCJ
import Derived.Test.YtjhkadffaephmabBundleAJ
import Derived.Laws.BitsAllLaws
/-
  engine.twice of a full bag, engine.untold; a router that is another.
-/
namespace Go.Proofs.Ytjhkadffaephmab
set_option maxRecDepth 100000
open Go.RowKit

set_option maxHeartbeats 1000000 in
theorem twice_many (base P N i : Nat) (e : Eng) (Bv : Value) (y : Lay) (w : World) (hL : Live base P N e Bv y w) (hm : 120 ≤ e.bag.length) (hm2 : e.bag.length ≤ 200) :
    Calls Try.prog 183 #[.pointer (some ⟨P, 0, none⟩), .int .i64 i] w fun r w' => r = .returned (.int .i64 2) ∧ Live base P N e Bv y w' ∧ Below base w w' := by
  obtain ⟨g, cap, hBv⟩ : ∃ g cap, Bv = .slice (some ⟨g, 0, none⟩) e.bag.length cap := by
    rcases Go.Joins.ownsRow_forms hL.bag with ⟨_, e0⟩ | ⟨g, cap, e1⟩
    · omega
    · exact ⟨g, cap, e1⟩
  have p1 := hL.head.cell 1
  simp at p1
  rw [hBv] at p1
  have HF := hide (And.intro hL (Below.refl base w))
  generalize e.bag.length = len at *
  have hm' : (120 : Int) ≤ (len : Int) := by omega
  clear hL hBv
  go_enter Try.func183, Try.ntmps183
  go_wp2
  go_ret
  exact ⟨rfl, HF.out⟩

theorem made_nil {N k : Nat} (h : k < N) : (madeCells #[.slice none 0 0] N)[k]? = some (.slice none 0 0) := by
  simp [madeCells, h, Nat.mod_one]

set_option maxHeartbeats 1000000 in
theorem untold_any (n : NetM) (ra : Option Addr) (rl rc N : Nat) (w : World) (hN : n.nodes = N) (hN6 : N ≤ 6) :
    Calls Try.prog 127 #[n.val, .slice ra rl rc] w fun r w' => (∃ T, r = .returned (.agg #[.slice ra rl rc, .slice (some ⟨T, 0, none⟩) N N]) ∧ w.heap.size ≤ T ∧ Blk w' T (madeCells #[.slice none 0 0] N) 22) ∧ Below w.heap.size w w' := by
  obtain ⟨i2, hi2, hx0, hx1, hx2⟩ := info_parts Try.infoInts
  have hmkA : ∀ u : World, (Instr.makeSlice 36 (.int .i64 (N : Int)) (.int .i64 (N : Int))).run Try.prog u = .ok (.slice (some ⟨u.heap.size, 0, none⟩) N N) (u.alloc (.cells (madeCells #[.slice none 0 0] N) 22)) := fun u => by
    have h := run_make (P := Try.prog) u 36 22 i2 (.slice none 0 0) Try.underlying36 hi2 hx0 .i64 .i64 (N : Int) (N : Int) (by omega) (Int.le_refl _) (by rw [hx2]; omega) (by omega)
    simpa [hx1, Value.cells] using h
  obtain ⟨W1, hW1⟩ : ∃ W1, W1 = ((w.alloc (.cells n.cells 41)).alloc (.cells #[.slice ra rl rc, .slice (some ⟨w.heap.size + 1 + 1, 0, none⟩) N N] 124)).alloc (.cells (madeCells #[.slice none 0 0] N) 22) := ⟨_, rfl⟩
  have hB1 : Below w.heap.size w W1 := by rw [hW1]; exact (((Below.refl _ w).alloc (Nat.le_refl _) _).alloc (by simp) _).alloc (by simp; omega) _
  have b2 : Blk W1 (w.heap.size + 1) #[.slice ra rl rc, .slice (some ⟨w.heap.size + 1 + 1, 0, none⟩) N N] 124 := by rw [hW1]; exact (Blk.new' (by simp)).alloc _
  have b3 : Blk W1 (w.heap.size + 1 + 1) (madeCells #[.slice none 0 0] N) 22 := by rw [hW1]; exact Blk.new' (by simp)
  have d0 := b2.cell 0
  have d1 := b2.cell 1
  simp at d0 d1
  have hcells : n.cells = #[.int .i64 n.a.size, .slice n.a.B.ga n.a.B.t.len n.a.B.cap, .slice n.a.E.ga n.a.E.t.len n.a.E.cap, .int .i64 N, .slice n.la n.ln n.lc] := by simp only [NetM.cells, Mat.val, hN]
  rw [hcells] at hW1
  rw [NetM.val, hcells]
  have HF := hide (And.intro b3 hB1)
  have HW1 := hide hW1
  generalize hmc : madeCells #[.slice none 0 0] N = mc at *
  clear hB1 b2 b3 hW1 hcells hN hi2 hx0 hx1 hx2
  go_enter Try.func127, Try.ntmps127
  go_wp2
  rw [← HW1.out]
  exact bodyPost_ret (v := .agg #[.slice ra rl rc, .slice (some ⟨w.heap.size + 1 + 1, 0, none⟩) N N]) (by simp [results, Try.results127, go_sem, d0, d1]) rfl ⟨⟨_, rfl, by omega, HF.out.1⟩, HF.out.2⟩

/-- A router is another, that was told nothing. -/
theorem Live.setRouter {base P N : Nat} {e : Eng} {Bv : Value} {y : Lay} {W : World} (h : Live base P N e Bv y W) {i b c T tc : Nat} {vts : Array Value} (hi : i < N) (f : Nat → Int) (ho : y.Off P N Bv W b) (hc : ∀ j, j < N → W.cell? ⟨b, j, none⟩ = some (.int .i64 (f j)))
    (hT : Blk W T vts 22) (hv : ∀ k, k < N → vts[k]? = some (.slice none 0 0)) (hoT : y.Off P N Bv W T) (hbT : b ≠ T) (hlo : base ≤ T) (hr : ∀ r, r < N → y.rb r ≠ T) (hd : ∀ r k, r < N → k < N → e.told r k = true → y.db r k ≠ T) :
    ∃ y', Live base P N (e.restart i f) Bv y' ((W.setCell ⟨y.G, i * 2, none⟩ (.slice (some ⟨b, 0, none⟩) N c)).setCell ⟨y.G, i * 2 + 1, none⟩ (.slice (some ⟨T, 0, none⟩) N tc)) := by
  obtain ⟨W2, hW2⟩ : ∃ W2, W2 = (W.setCell ⟨y.G, i * 2, none⟩ (.slice (some ⟨b, 0, none⟩) N c)).setCell ⟨y.G, i * 2 + 1, none⟩ (.slice (some ⟨T, 0, none⟩) N tc) := ⟨_, rfl⟩
  have hsz : ∀ r, r < N → r * 2 + 1 < y.vs.size := fun r hr => (Array.getElem?_eq_some_iff.1 (h.r1 r hr)).1
  have hws : W2.heap.size = W.heap.size := by rw [hW2]; simp
  have hcell : ∀ q j, q ≠ y.G → W2.cell? ⟨q, j, none⟩ = W.cell? ⟨q, j, none⟩ := fun q j hq => by rw [hW2, cell_other hq, cell_other hq]
  have hblk : ∀ q cs t, q ≠ y.G → Blk W q cs t → Blk W2 q cs t := fun q cs t hq hb => by rw [hW2]; exact (hb.other hq _ _).other hq _ _
  obtain ⟨y', hy'⟩ : ∃ y' : Lay, y' = { y with vs := (y.vs.setIfInBounds (i * 2) (.slice (some ⟨b, 0, none⟩) N c)).setIfInBounds (i * 2 + 1) (.slice (some ⟨T, 0, none⟩) N tc), rb := fun r => if r = i then b else y.rb r, rc := fun r => if r = i then c else y.rc r, Tb := fun r => if r = i then T else y.Tb r, Tc := fun r => if r = i then tc else y.Tc r, vt := fun r => if r = i then vts else y.vt r, ta := fun r q => if r = i then none else y.ta r q, tc := fun r q => if r = i then 0 else y.tc r q } := ⟨_, rfl⟩
  have hTb : ∀ k, y'.Tb k = if k = i then T else y.Tb k := fun k => by rw [hy']
  have hG : y'.G = y.G := by rw [hy']
  have hlo' : y'.lo = y.lo := by rw [hy']
  have hoff : ∀ q, y.Off P N Bv W q → q ≠ T → y'.Off P N Bv W2 q := fun q hq hqT => ⟨hq.p, by rw [hG]; exact hq.g, fun k hk => by rw [hTb]; split; exact hqT; exact hq.t k hk, hq.v, by rw [hws]; exact hq.lt, by rw [hlo']; exact hq.lo⟩
  rw [← hW2]
  refine ⟨y', ?_, ?_, fun r hr' => ?_, fun r hr' => ?_, fun r hr' => ?_, fun r hr' k hk => ?_, fun r hr' => ?_, fun r hr' k hk ht => ?_, ?_, h.lp, by rw [hG]; exact h.lg, fun r hr' => ?_, by rw [hG]; exact h.pg, fun r hr' => ?_, fun r hr' => ?_, fun r k hr' hk hne => ?_, fun g hg => ?_, by rw [hlo']; exact h.ylo⟩
  · have := hblk P _ _ h.pg h.head
    rw [hy']; exact this
  · have := (h.rtrs.set (i * 2) (.slice (some ⟨b, 0, none⟩) N c)).set (i * 2 + 1) (.slice (some ⟨T, 0, none⟩) N tc)
    rw [hy', hW2]; exact this
  · rw [hy']
    show ((y.vs.setIfInBounds (i * 2) _).setIfInBounds (i * 2 + 1) _)[r * 2]? = some (.slice (some ⟨if r = i then b else y.rb r, 0, none⟩) N (if r = i then c else y.rc r))
    rw [Array.getElem?_setIfInBounds_ne (by omega)]
    by_cases e1 : r = i
    · subst e1
      have := hsz r hr'
      rw [if_pos rfl, if_pos rfl, Array.getElem?_setIfInBounds_self_of_lt (by omega)]
    · rw [if_neg e1, if_neg e1, Array.getElem?_setIfInBounds_ne (by omega)]
      exact h.r0 r hr'
  · rw [hy']
    show ((y.vs.setIfInBounds (i * 2) _).setIfInBounds (i * 2 + 1) _)[r * 2 + 1]? = some (.slice (some ⟨if r = i then T else y.Tb r, 0, none⟩) N (if r = i then tc else y.Tc r))
    by_cases e1 : r = i
    · subst e1
      have := hsz r hr'
      rw [if_pos rfl, if_pos rfl, Array.getElem?_setIfInBounds_self_of_lt (by simp; omega)]
    · rw [if_neg e1, if_neg e1, Array.getElem?_setIfInBounds_ne (by omega), Array.getElem?_setIfInBounds_ne (by omega)]
      exact h.r1 r hr'
  · rw [hy']
    show Blk W2 (if r = i then T else y.Tb r) (if r = i then vts else y.vt r) _
    by_cases e1 : r = i
    · rw [if_pos e1, if_pos e1]
      exact hblk T _ _ hoT.g hT
    · rw [if_neg e1, if_neg e1]
      exact hblk _ _ _ (Ne.symm (h.gt r hr')) (h.tolds r hr')
  · rw [hy']
    show (if r = i then vts else y.vt r)[k]? = some (.slice (if r = i then none else y.ta r k) (if (if r = i then false else e.told r k) = true then N else 0) (if r = i then 0 else y.tc r k))
    by_cases e1 : r = i
    · simp only [if_pos e1]
      exact hv k hk
    · simp only [if_neg e1]
      exact h.t0 r hr' k hk
  · have hrb : y'.rb r = if r = i then b else y.rb r := by rw [hy']
    rw [hrb]
    show Lay.Off _ P N Bv _ _ ∧ ∀ j, j < N → World.cell? _ ⟨if r = i then b else y.rb r, j, none⟩ = some (.int .i64 ((if r = i then f else e.R r) j))
    by_cases e1 : r = i
    · rw [if_pos e1, if_pos e1]
      exact ⟨hoff b ho hbT, fun j hj => by rw [hcell _ _ ho.g]; exact hc j hj⟩
    · rw [if_neg e1, if_neg e1]
      exact ⟨hoff _ (h.routes r hr').1 (hr r hr'), fun j hj => by rw [hcell _ _ (h.routes r hr').1.g]; exact (h.routes r hr').2 j hj⟩
  · have ht' : (if r = i then false else e.told r k) = true := ht
    by_cases e1 : r = i
    · rw [if_pos e1] at ht'; cases ht'
    · rw [if_neg e1] at ht'
      have e2 : y'.ta r k = y.ta r k := by rw [hy']; exact if_neg e1
      have e3 : y'.db r k = y.db r k := by rw [hy']
      have e4 : y'.dn r k = y.dn r k := by rw [hy']
      rw [e2, e3, e4]
      obtain ⟨h1, h2, h3⟩ := h.rows r hr' k hk ht'
      exact ⟨h1, hoff _ h2 (hd r k hr' hk ht'), fun j hj => by rw [hcell _ _ h2.g]; exact h3 j hj⟩
  · have hbg : Bv.ownBlock ≠ some y.G := fun e1 => (h.bv _ e1).2.1 rfl
    rw [hW2]
    exact ownsRow_setCell_other (ownsRow_setCell_other h.bag hbg _) hbg _
  · rw [hTb]; split
    · exact hlo
    · exact h.lt r hr'
  · rw [hTb]; split
    · exact Ne.symm hoT.p
    · exact h.pt r hr'
  · rw [hTb, hG]; split
    · exact Ne.symm hoT.g
    · exact h.gt r hr'
  · rw [hTb, hTb]
    by_cases e1 : r = i
    · rw [if_pos e1, if_neg (by omega)]
      exact hoT.t k hk
    · rw [if_neg e1]
      by_cases e2 : k = i
      · rw [if_pos e2]; exact Ne.symm (hoT.t r hr')
      · rw [if_neg e2]; exact h.tt r k hr' hk hne
  · obtain ⟨h1, h2, h3⟩ := h.bv g hg
    refine ⟨h1, by rw [hG]; exact h2, fun r hr' => ?_⟩
    rw [hTb]; split
    · intro e1; exact hoT.v (by rw [← e1]; exact hg)
    · exact h3 r hr'

end Go.Proofs.Ytjhkadffaephmab

/-
  engine.restart.
-/
namespace Go.Proofs.Ytjhkadffaephmab
set_option maxRecDepth 100000
open Go.RowKit

set_option maxHeartbeats 1000000 in
theorem restart_form (n : NetM) (base P N i : Nat) (ra : Option Addr) (rl rc : Nat) (e : Eng) (Bv : Value) (y : Lay) (w : World) (hN : n.nodes = N) (hL : Live base P N e Bv y w) (hl : rl ≠ N) (_hN6 : N ≤ 6) (_hrl : rl ≤ maxLen) :
    Calls Try.prog 182 #[n.val, .pointer (some ⟨P, 0, none⟩), .int .i64 i, .slice ra rl rc] w fun r w' => r = .returned (.int .i64 1) ∧ Live base P N e Bv y w' ∧ Below base w w' := by
  have hbw : base ≤ w.heap.size := Nat.le_of_lt (Nat.lt_of_le_of_lt hL.lp hL.head.lt)
  have hB1 : Below w.heap.size w (w.alloc (.cells n.cells 41)) := (Below.refl _ w).alloc (Nat.le_refl _) _
  have hcells : n.cells = #[.int .i64 n.a.size, .slice n.a.B.ga n.a.B.t.len n.a.B.cap, .slice n.a.E.ga n.a.E.t.len n.a.E.cap, .int .i64 N, .slice n.la n.ln n.lc] := by simp only [NetM.cells, Mat.val, hN]
  have HF := hide (And.intro (hL.below hB1) (hB1.mono hbw))
  rw [hcells] at HF
  rw [NetM.val, hcells]
  unfold maxLen at _hrl
  have hne : ((rl : Int) == (N : Int)) = false := by simp; omega
  clear hL hbw hB1 hcells hN
  go_enter Try.func182, Try.ntmps182
  go_wp2
  go_ret
  exact ⟨rfl, HF.out⟩

set_option maxHeartbeats 1000000 in
theorem restart_none (n : NetM) (base P N i : Nat) (ra : Option Addr) (rc rb ro : Nat) (f : Nat → Int) (e : Eng) (Bv : Value) (y : Lay) (w : World) (hN : n.nodes = N) (_hN6 : N ≤ 6) (hL : Live base P N e Bv y w) (hr : Ints ra N rb ro f w) (hrb : 0 < N → rb < w.heap.size) (hbad : rowIn N f n.a.size = false) :
    Calls Try.prog 182 #[n.val, .pointer (some ⟨P, 0, none⟩), .int .i64 i, .slice ra N rc] w fun r w' => r = .returned (.int .i64 5) ∧ Live base P N e Bv y w' ∧ Below base w w' := by
  have hbw : base ≤ w.heap.size := Nat.le_of_lt (Nat.lt_of_le_of_lt hL.lp hL.head.lt)
  have hB1 : Below w.heap.size w (w.alloc (.cells n.cells 41)) := (Below.refl _ w).alloc (Nat.le_refl _) _
  have hcells : n.cells = #[.int .i64 n.a.size, .slice n.a.B.ga n.a.B.t.len n.a.B.cap, .slice n.a.E.ga n.a.E.t.len n.a.E.cap, .int .i64 N, .slice n.la n.ln n.lc] := by simp only [NetM.cells, Mat.val, hN]
  have HS := hide (sallBelow_any ra N rc rb ro f n.a.size _ (hr.below hB1 hrb) (fun h0 => Nat.lt_of_lt_of_le (hrb h0) hB1.size))
  rw [hbad] at HS
  have HX : Hid (∀ W, Below (w.alloc (.cells n.cells 41)).heap.size (w.alloc (.cells n.cells 41)) W → Live base P N e Bv y W ∧ Below base w W) := hide (fun W hb => ⟨(hL.below hB1).below hb, (hB1.mono hbw).trans (hb.mono (Nat.le_trans hbw hB1.size))⟩)
  rw [hcells] at HS HX
  rw [NetM.val, hcells]
  clear hL hbw hB1 hcells hN hr hrb hbad
  go_enter Try.func182, Try.ntmps182
  go_wp2_with fail
  go_at_call 133
  refine HS.out.mono ?_
  rintro r w2 ⟨rfl, hb2⟩
  have HF := hide (HX.out w2 hb2)
  clear hb2 HX HS
  go_wp2
  go_ret
  exact ⟨rfl, HF.out⟩

/-- What stands all through the store of a router. -/
structure RestG (base P N : Nat) (n : NetM) (b3 : Nat) (e : Eng) (Bv : Value) (y : Lay) (w1 W : World) : Prop where
  live : Live base P N e Bv y W
  net : Blk W b3 n.cells 41
  below : Below w1.heap.size w1 W
theorem RestG.keep {base P N : Nat} {n : NetM} {b3 : Nat} {e : Eng} {Bv : Value} {y : Lay} {w1 W W' : World} (h : RestG base P N n b3 e Bv y w1 W) (hb : Below W.heap.size W W') : RestG base P N n b3 e Bv y w1 W' := ⟨h.live.below hb, h.net.below hb h.net.lt, h.below.trans (hb.mono h.below.size)⟩
/-- A row of routes that was made. -/
def RowAt (N : Nat) (f : Nat → Int) (w1 W : World) (b : Nat) : Prop := w1.heap.size ≤ b ∧ b < W.heap.size ∧ ∀ j, j < N → W.cell? ⟨b, j, none⟩ = some (.int .i64 (f j))
theorem RowAt.keep {N : Nat} {f : Nat → Int} {w1 W W' : World} {b : Nat} (h : RowAt N f w1 W b) (hb : Below W.heap.size W W') : RowAt N f w1 W' b := ⟨h.1, Nat.lt_of_lt_of_le h.2.1 hb.size, fun j hj => by rw [hb.cell (p := ⟨b, j, none⟩) h.2.1]; exact h.2.2 j hj⟩
def restE (vs : List Value) (N : Nat) (f : Nat → Int) (w1 : World) (k : Nat) (v : Value) (W : World) : Prop :=
  if k = 7 then ∃ b c : Nat, v = .slice (some ⟨b, 0, none⟩) N c ∧ RowAt N f w1 W b
  else if k = 8 then ∃ b c T : Nat, v = .agg #[.slice (some ⟨b, 0, none⟩) N c, .slice (some ⟨T, 0, none⟩) N N] ∧ RowAt N f w1 W b ∧ b < T ∧ Blk W T (madeCells #[.slice none 0 0] N) 22
  else vs[k]? = some v
theorem restE_keep {vs : List Value} {N : Nat} {f : Nat → Int} {w1 : World} {k : Nat} {v : Value} {W W' : World} (hb : Below W.heap.size W W') (h : restE vs N f w1 k v W) : restE vs N f w1 k v W' := by
  unfold restE at h ⊢
  split
  · next e =>
    rw [if_pos e] at h
    obtain ⟨b, c, h1, h2⟩ := h
    exact ⟨b, c, h1, h2.keep hb⟩
  · next e =>
    rw [if_neg e] at h
    split
    · next e2 =>
      rw [if_pos e2] at h
      obtain ⟨b, c, T, h1, h2, h3, h4⟩ := h
      exact ⟨b, c, T, h1, h2.keep hb, h3, h4.below hb h4.lt⟩
    · next e2 =>
      rw [if_neg e2] at h
      exact h
theorem restE_get {vs : List Value} {N : Nat} {f : Nat → Int} {w1 : World} {k : Nat} {v u : Value} {W : World} (h : restE vs N f w1 k v W) (hk : k ≠ 7 ∧ k ≠ 8) (hu : vs[k]? = some u) : v = u := by
  unfold restE at h
  rw [if_neg hk.1, if_neg hk.2, hu] at h
  exact (Option.some.inj h).symm

set_option maxHeartbeats 4000000 in
theorem restart_ok (n : NetM) (base P N i : Nat) (ra : Option Addr) (rc rb ro : Nat) (f : Nat → Int) (e : Eng) (Bv : Value) (y : Lay) (w : World) (hN : n.nodes = N) (hN6 : N ≤ 6) (hN0 : 0 < N) (hL : Live base P N e Bv y w) (hr : Ints ra N rb ro f w) (hrb : rb < w.heap.size) (hok : rowIn N f n.a.size = true) (hi : i < N) :
    Calls Try.prog 182 #[n.val, .pointer (some ⟨P, 0, none⟩), .int .i64 i, .slice ra N rc] w fun r w' => r = .returned (.int .i64 0) ∧ (∃ y', Live base P N (e.restart i f) Bv y' w') ∧ Below base w w' := by
  have hbw : base ≤ w.heap.size := Nat.le_of_lt (Nat.lt_of_le_of_lt hL.lp hL.head.lt)
  obtain ⟨W1, hW1⟩ : ∃ W1, W1 = w.alloc (.cells n.cells 41) := ⟨_, rfl⟩
  have hB1 : Below w.heap.size w W1 := by rw [hW1]; exact (Below.refl _ w).alloc (Nat.le_refl _) _
  have b3 : Blk W1 w.heap.size n.cells 41 := by rw [hW1]; exact Blk.new w _ _
  have hcells : n.cells = #[.int .i64 n.a.size, .slice n.a.B.ga n.a.B.t.len n.a.B.cap, .slice n.a.E.ga n.a.E.t.len n.a.E.cap, .int .i64 N, .slice n.la n.ln n.lc] := by simp only [NetM.cells, Mat.val, hN]
  have hr1 := hr.below hB1 (fun _ => hrb)
  have hrb1 : rb < W1.heap.size := Nat.lt_of_lt_of_le hrb hB1.size
  have HS := hide (sallBelow_any ra N rc rb ro f n.a.size W1 hr1 (fun _ => hrb1))
  rw [hok] at HS
  have HL1 := hide (hL.below hB1)
  have HL0 := hide hL
  have HB1 := hide hB1
  have Hb3 := hide b3
  have Hr1 := hide hr1
  have Hcells := hide hcells
  have Hbw := hide hbw
  have HUn := hide (fun (q : Nat) (c : Nat) W => untold_any n (some ⟨q, 0, none⟩) N c N W hN hN6)
  rw [hcells] at hW1
  have HW1 := hide hW1
  rw [hW1] at HS
  rw [NetM.val, hcells]
  have hii : (i : Int) < (N : Int) := by omega
  clear hL hbw hB1 hcells hN hr hrb hok b3 hW1 hr1
  go_enter Try.func182, Try.ntmps182
  go_wp2_with fail
  go_at_call 133
  refine HS.out.mono ?_
  rw [← HW1.out]
  rintro r w2 ⟨rfl, hb2⟩
  have HG0 : Hid (RestG base P N n w.heap.size e Bv y W1 w2) := hide ⟨HL1.out.below hb2, Hb3.out.below hb2 Hb3.out.lt, hb2⟩
  have HCl := hide (fun W (hb : Below W1.heap.size W1 W) => clone_any ra N rc rb ro f W (Hr1.out.below hb (fun _ => hrb1)) hN0 (by omega) (Nat.lt_of_lt_of_le hrb1 hb.size))
  clear hb2 HS
  go_wp2
  refine wp_region_last 10 _ (RestG base P N n w.heap.size e Bv y W1) (restE [.pointer (some ⟨P, 0, none⟩), .pointer (some ⟨P, 0, none⟩), .pointer (some ⟨P, 0, none⟩), .slice (some ⟨y.G, 0, none⟩) N y.gc, .int .i64 (i : Int), n.val, .slice ra N rc, undef, undef, .pointer (some ⟨y.G, i * 2, none⟩)] N f W1) (fun _ W => (∃ y', Live base P N (e.restart i f) Bv y' W) ∧ Below base w W) (fun _ _ _ => True) (by kernel_rfl) (by kernel_rfl) (by kernel_rfl) (by kernel_rfl) (by kernel_rfl) rfl (HG0.out.keep ⟨rfl, rfl, rfl, Nat.le_refl _, fun _ _ => rfl⟩) ⟨?_, ?_, ?_, ?_, ?_, ?_, ?_, ?_, ?_, ?_, trivial⟩ ?_ trivial ?_
  rotate_right
  · intro t W hG _
    have HG := hide hG
    clear hG
    simp only [fill, Act.put, List.setIfInBounds_toArray, List.set_cons_zero, List.set_cons_succ]
    go_wp2
    go_ret
    exact ⟨rfl, HG.out.1, HG.out.2⟩
  rotate_right
  · intro t W hG hE _ K hK
    have e9 := restE_get (hE 9 (by omega)) (by decide) rfl
    have h8 : ∃ b c T : Nat, t 8 = .agg #[.slice (some ⟨b, 0, none⟩) N c, .slice (some ⟨T, 0, none⟩) N N] ∧ RowAt N f W1 W b ∧ b < T ∧ Blk W T (madeCells #[.slice none 0 0] N) 22 := hE 8 (by omega)
    simp only [fill, Act.put, List.setIfInBounds_toArray, List.set_cons_zero, List.set_cons_succ, e9] at hK ⊢
    rw [if_pos (by rfl)]
    obtain ⟨b, c, T, e8, hb, hbT, hT⟩ := h8
    have hl1 := HL1.out
    have hnew : ∀ q, W1.heap.size ≤ q → q < W.heap.size → y.Off P N Bv W q := fun q h1 h2 => ⟨by have := hl1.head.lt; omega, by have := hl1.rtrs.lt; omega, fun k hk => by have := (hl1.tolds k hk).lt; omega, fun hv => by have := (hl1.bag.lt _ hv).2; omega, h2, by have := hl1.ylo; have := hl1.head.lt; omega⟩
    have hset := hG.live.setRouter (c := c) (tc := N) hi f (hnew b hb.1 hb.2.1) hb.2.2 hT (fun k hk => made_nil hk) (hnew T (by have := hb.1; omega) hT.lt) (by omega) (by have := hb.1; have := HB1.out.size; have := Hbw.out; omega) (fun r hr => by have := (hl1.routes r hr).1.lt; have := hb.1; omega) (fun r k hr hk ht => by have := (hl1.rows r hr k hk ht).2.1.lt; have := hb.1; omega)
    have c1 := hG.live.rtrs.cell (i * 2)
    rw [hG.live.r0 i hi] at c1
    have cf := hG.live.rtrs.frozen (i * 2)
    have c2 := hG.live.rtrs.cell (i * 2 + 1)
    rw [hG.live.r1 i hi] at c2
    have cg := hG.live.rtrs.frozen (i * 2 + 1)
    have hBw : Below base w ((W.setCell ⟨y.G, i * 2, none⟩ (.slice (some ⟨b, 0, none⟩) N c)).setCell ⟨y.G, i * 2 + 1, none⟩ (.slice (some ⟨T, 0, none⟩) N N)) := (((HB1.out.mono Hbw.out).trans (hG.below.mono (Nat.le_trans Hbw.out HB1.out.size))).setCell (p := ⟨y.G, i * 2, none⟩) hG.live.lg _).setCell (p := ⟨y.G, i * 2 + 1, none⟩) hG.live.lg _
    have HN' := hide (And.intro hset hBw)
    simp only [e8] at hK ⊢
    clear hset hBw hnew hT hb hbT e8 e9 hE
    go_simp
    exact hK undef _ HN'.out
  all_goals intro t W hG hp ht K hK
  all_goals clear ht
  all_goals simp only [fill, Act.put, List.setIfInBounds_toArray, List.set_cons_zero, List.set_cons_succ] at hK ⊢
  · rw [if_pos (by rfl)]
    go_simp
    exact hK _ _ hG rfl (fun _ _ _ h => h)
  · have e0 := restE_get (hp 0 (by decide)) (by decide) rfl
    simp only [e0] at hK ⊢
    rw [if_pos (by rfl)]
    go_simp
    exact hK _ _ hG rfl (fun _ _ _ h => h)
  · have e1 := restE_get (hp 1 (by decide)) (by decide) rfl
    simp only [e1] at hK ⊢
    rw [if_pos (by rfl)]
    go_simp
    exact hK _ _ hG rfl (fun _ _ _ h => h)
  · have e2 := restE_get (hp 2 (by decide)) (by decide) rfl
    have c0 := hG.live.head.cell 0
    simp at c0
    simp only [e2] at hK ⊢
    rw [if_pos (by rfl)]
    go_simp
    exact hK _ _ hG rfl (fun _ _ _ h => h)
  · rw [if_pos (by rfl)]
    go_simp
    exact hK _ _ hG rfl (fun _ _ _ h => h)
  · have x0 := hG.net.cell 0
    have x1 := hG.net.cell 1
    have x2 := hG.net.cell 2
    have x3 := hG.net.cell 3
    have x4 := hG.net.cell 4
    simp [Hcells.out] at x0 x1 x2 x3 x4
    rw [if_pos (by rfl)]
    go_simp
    exact hK _ _ hG (by show some n.val = _; rw [NetM.val, Hcells.out]) (fun _ _ _ h => h)
  · rw [if_pos (by rfl)]
    go_simp
    exact hK _ _ hG rfl (fun _ _ _ h => h)
  · have e6 := restE_get (hp 6 (by decide)) (by decide) rfl
    simp only [e6] at hK ⊢
    rw [if_pos (by rfl)]
    go_simp
    go_at_call 139
    refine (HCl.out W hG.below).mono ?_
    rintro r W' ⟨q, c, rfl, hb, h1, h2, h3⟩
    go_simp
    exact hK _ W' (hG.keep hb) ⟨q, c, rfl, by have := hG.below.size; omega, h2, h3⟩ (fun _ _ _ h => restE_keep hb h)
  · have e5 := restE_get (hp 5 (by decide)) (by decide) rfl
    have h7 : ∃ b c : Nat, t 7 = .slice (some ⟨b, 0, none⟩) N c ∧ RowAt N f W1 W b := hp 7 (by decide)
    obtain ⟨b, c, e7, hb⟩ := h7
    rw [NetM.val, Hcells.out] at e5
    simp only [e7] at hK ⊢
    simp only [e5] at hK ⊢
    rw [if_pos (by rfl)]
    go_simp
    go_at_call 127
    have HUn := hide (HUn.out b c W)
    rw [NetM.val, Hcells.out] at HUn
    refine HUn.out.mono ?_
    rintro r W' ⟨⟨T, rfl, h1, h2⟩, hbw⟩
    go_simp
    exact hK _ W' (hG.keep hbw) ⟨b, c, T, rfl, hb.keep hbw, by have := hb.2.1; omega, h2⟩ (fun _ _ _ h => restE_keep hbw h)
  · have e3 := restE_get (hp 3 (by decide)) (by decide) rfl
    have e4 := restE_get (hp 4 (by decide)) (by decide) rfl
    simp only [e3, e4] at hK ⊢
    rw [if_pos (by rfl)]
    go_simp
    exact hK _ _ hG rfl (fun _ _ _ h => h)

end Go.Proofs.Ytjhkadffaephmab

/-
  engine.spoil.
-/
namespace Go.Proofs.Ytjhkadffaephmab
set_option maxRecDepth 100000
open Go.RowKit

theorem mailsL_set : ∀ (l : List Mail) (i : Nat) (b : List UInt8), i < l.length → mailsL (l.set i { l.getD i noMail with b := b }) = (mailsL l).set (i * 3 + 2) (.string ⟨b.toArray⟩)
  | [], i, b, h => absurd h (Nat.not_lt_zero _)
  | m :: l, 0, b, _ => rfl
  | m :: l, i + 1, b, h => by
    have ih := mailsL_set l i b (by simpa using h)
    have e : mailsL (m :: l) = .int .i64 m.F :: .int .i64 m.T :: .string ⟨m.b.toArray⟩ :: mailsL l := rfl
    have e2 : mailsL ((m :: l).set (i + 1) { (m :: l).getD (i + 1) noMail with b := b }) = .int .i64 m.F :: .int .i64 m.T :: .string ⟨m.b.toArray⟩ :: mailsL (l.set i { l.getD i noMail with b := b }) := rfl
    rw [e, e2, ih, show (i + 1) * 3 + 2 = (i * 3 + 2) + 1 + 1 + 1 by omega]
    rfl

/-- The bytes of one mail are others. -/
theorem Live.setMail {base P N : Nat} {e : Eng} {Bv : Value} {y : Lay} {W : World} (h : Live base P N e Bv y W) {i g cap : Nat} (hi : i < e.bag.length) (hBv : Bv = .slice (some ⟨g, 0, none⟩) e.bag.length cap) (b : List UInt8) :
    Live base P N { e with bag := e.bag.set i { e.bag.getD i noMail with b := b } } Bv y (W.setCell ⟨g, i * 3 + 2, none⟩ (.string ⟨b.toArray⟩)) := by
  have hown : Bv.ownBlock = some g := by rw [hBv]; rfl
  obtain ⟨hgP, hgG, hgT⟩ := h.bv g hown
  have hws : (W.setCell ⟨g, i * 3 + 2, none⟩ (.string ⟨b.toArray⟩)).heap.size = W.heap.size := by simp
  have hoff : ∀ q, y.Off P N Bv W q → y.Off P N Bv (W.setCell ⟨g, i * 3 + 2, none⟩ (.string ⟨b.toArray⟩)) q := fun q hq => ⟨hq.p, hq.g, hq.t, hq.v, by rw [hws]; exact hq.lt, hq.lo⟩
  have hne : ∀ q, y.Off P N Bv W q → q ≠ g := fun q hq e1 => hq.v (by rw [e1]; exact hown)
  refine ⟨h.head.other (Ne.symm hgP) _ _, h.rtrs.other (Ne.symm hgG) _ _, h.r0, h.r1, fun r hr => (h.tolds r hr).other (Ne.symm (hgT r hr)) _ _, h.t0, fun r hr => ?_, fun r hr k hk ht => ?_, ?_, h.lp, h.lg, h.lt, h.pg, h.pt, h.gt, h.tt, h.bv, h.ylo⟩
  · obtain ⟨h1, h2⟩ := h.routes r hr
    exact ⟨hoff _ h1, fun j hj => by rw [cell_other (hne _ h1)]; exact h2 j hj⟩
  · obtain ⟨h1, h2, h3⟩ := h.rows r hr k hk ht
    exact ⟨h1, hoff _ h2, fun j hj => by rw [cell_other (hne _ h2)]; exact h3 j hj⟩
  · show World.ownsRow _ base 52 3 Bv (e.bag.set i _).length (mailsL (e.bag.set i _))
    rw [mailsL_set e.bag i b hi, List.length_set]
    obtain ⟨hxl, ho2⟩ := h.bag
    rcases ho2 with ⟨h0, _⟩ | ⟨g', cap', cur, e1, hbase, hb, hn, hm, hcs, htk⟩
    · rw [hBv] at h0; cases h0
    · rw [hBv] at e1
      obtain ⟨rfl, rfl⟩ : g = g' ∧ cap = cap' := by simpa using e1
      refine ⟨by rw [List.length_set]; exact hxl, Or.inr ⟨g, cap, _, by rw [hBv], hbase, Blk.set hb (i * 3 + 2) (.string ⟨b.toArray⟩), hn, hm, by simpa using hcs, ?_⟩⟩
      rw [Array.toList_setIfInBounds, List.take_set, htk]

/-- Bytes that were made of a string. -/
theorem bytes_made (w : World) (l : List UInt8) : ∃ (cb : Nat) (W1 : World), (∀ u, u = w → (convert 9 34 (.string ⟨l.toArray⟩)).run Try.prog u = .ok (.slice (some ⟨w.heap.size, 0, none⟩) l.length cb) W1) ∧ Below w.heap.size w W1 ∧ W1.heap.size = w.heap.size + 1 ∧
    (∀ j (hj : j < l.length), W1.cell? ⟨w.heap.size, j, none⟩ = some (.int .u8 (l[j].toNat : Int)) ∧ W1.frozen? ⟨w.heap.size, j, none⟩ = false) := by
  have hsz : (ByteArray.mk l.toArray).size = l.length := by simp [ByteArray.size]
  have hr := run_bytes_of_string (P := Try.prog) w 9 34 5 ⟨l.toArray⟩ Try.underlying9 Try.underlying34 Try.underlying5
  rw [hsz] at hr
  refine ⟨_, _, fun u hu => by rw [hu]; exact hr, (show Below w.heap.size w w.drew from ⟨rfl, rfl, rfl, Nat.le_refl _, fun _ _ => rfl⟩).trans ((Below.refl _ w.drew).alloc (Nat.le_refl _) _), by show (w.heap.push _).size = _; simp, fun j hj => ⟨?_, ?_⟩⟩
  · have := World.cell?_alloc_mark w.drew (bytesRow ⟨l.toArray⟩ (grownCap w l.length 0 5)) 5 ((bytesRow ⟨l.toArray⟩ (grownCap w l.length 0 5)).size, (bytesRow ⟨l.toArray⟩ (grownCap w l.length 0 5)).size + 1) j
    refine this.trans ?_
    rw [bytesRow_at ⟨l.toArray⟩ _ j (by simpa using hj)]
    simp
  · have := World.frozen?_alloc_mark w.drew (bytesRow ⟨l.toArray⟩ (grownCap w l.length 0 5)) 5 (bytesRow ⟨l.toArray⟩ (grownCap w l.length 0 5)).size ((bytesRow ⟨l.toArray⟩ (grownCap w l.length 0 5)).size + 1) j
    refine this.trans ?_
    have h2 : l.length ≤ (bytesRow ⟨l.toArray⟩ (grownCap w l.length 0 5)).size := by
      unfold bytesRow; simp
    simp; omega

theorem spoil_byte (x : UInt8) {c : Int} (h1 : 1 ≤ c) (h2 : c ≤ 255) : bits .xor .u8 (x.toNat : Int) c = ((x ^^^ u8 c).toNat : Int) := by
  obtain ⟨k, rfl⟩ : ∃ k : Nat, c = k := ⟨c.toNat, by omega⟩
  rw [u8_xor_nat x.toNat k x.toNat_lt (by omega), UInt8.toNat_xor]
  have := u8_toNat (x := (k : Int)) (by omega) (by omega)
  have : (u8 (k : Int)).toNat = k := by omega
  rw [this]

set_option maxHeartbeats 4000000 in
theorem spoil_bad (base P N i : Nat) (b c : Int) (e : Eng) (Bv : Value) (y : Lay) (w : World) (hL : Live base P N e Bv y w) (hi : i < e.bag.length) (_hlen : (e.bag.getD i noMail).b.length ≤ 60) (_hm : e.bag.length ≤ 200)
    (hbad : (b < 0 ∨ ((e.bag.getD i noMail).b.length : Int) ≤ b) ∨ (c < 1 ∨ 255 < c)) :
    Calls Try.prog 185 #[.pointer (some ⟨P, 0, none⟩), .int .i64 i, .int .i64 b, .int .i64 c] w fun r w' => r = .returned (.int .i64 3) ∧ Live base P N e Bv y w' ∧ Below base w w' := by
  have hbw : base ≤ w.heap.size := Nat.le_of_lt (Nat.lt_of_le_of_lt hL.lp hL.head.lt)
  obtain ⟨g, cap, hBv, m0, m1, m2⟩ := hL.mail hi
  obtain ⟨cb, W1, hcv, hB1, hs1, hc1⟩ := bytes_made w (e.bag.getD i noMail).b
  have HF := hide (And.intro (hL.below hB1) (hB1.mono hbw))
  have p1 := hL.head.cell 1
  simp at p1
  rw [hBv] at p1
  have HS := hide (fun W => sbelow_any b ((e.bag.getD i noMail).b.length : Int) W)
  generalize (e.bag.getD i noMail).b = l at *
  generalize e.bag.length = len at *
  have hii : (i : Int) < (len : Int) := by omega
  have hcw := hcv w rfl
  obtain ⟨L, hL'⟩ : ∃ L, L = l.length := ⟨_, rfl⟩
  rw [← hL'] at hcw HS hbad _hlen
  clear hL hBv hbw hB1 hc1 hcv hL' m0 m1
  go_enter Try.func185, Try.ntmps185
  go_wp2_with fail
  go_at_call 94
  refine (HS.out _).mono ?_
  rintro r w2 ⟨rfl, rfl⟩
  by_cases h1 : b < 0 ∨ (L : Int) ≤ b
  · have hv : (decide (0 ≤ b) && decide (b < (L : Int))) = false := by simp; omega
    rw [hv]
    clear hbad h1 hv HS
    go_wp2
    go_ret
    exact ⟨rfl, HF.out⟩
  have hv : (decide (0 ≤ b) && decide (b < (L : Int))) = true := by simp; omega
  rw [hv]
  by_cases h2 : c < 1
  · clear hbad h1 hv HS
    go_wp2
    go_ret
    exact ⟨rfl, HF.out⟩
  have h3 : 255 < c := by omega
  have h2' : ¬ c < 1 := h2
  clear hbad h1 hv HS
  go_wp2
  go_ret
  exact ⟨rfl, HF.out⟩

set_option maxHeartbeats 4000000 in
theorem spoil_ok (base P N i pl : Nat) (c : Int) (e : Eng) (Bv : Value) (y : Lay) (w : World) (hL : Live base P N e Bv y w) (hi : i < e.bag.length) (_hlen : (e.bag.getD i noMail).b.length ≤ 60) (_hm : e.bag.length ≤ 200) (hpl : pl < (e.bag.getD i noMail).b.length) (hc1 : 1 ≤ c) (hc2 : c ≤ 255) :
    Calls Try.prog 185 #[.pointer (some ⟨P, 0, none⟩), .int .i64 i, .int .i64 pl, .int .i64 c] w fun r w' => r = .returned (.int .i64 0) ∧ Live base P N (e.spoil i pl (u8 c)) Bv y w' ∧ Below base w w' := by
  have hbw : base ≤ w.heap.size := Nat.le_of_lt (Nat.lt_of_le_of_lt hL.lp hL.head.lt)
  obtain ⟨g, cap, hBv, m0, m1, m2⟩ := hL.mail hi
  obtain ⟨cb, W1, hcv, hB1, hs1, hcs⟩ := bytes_made w (e.bag.getD i noMail).b
  obtain ⟨l, hl⟩ : ∃ l, l = (e.bag.getD i noMail).b := ⟨_, rfl⟩
  rw [← hl] at hcv hcs hpl _hlen m2
  obtain ⟨x, hx⟩ : ∃ x : UInt8, x = l[pl] := ⟨_, rfl⟩
  obtain ⟨xx, hxx⟩ : ∃ xx, xx = x ^^^ u8 c := ⟨_, rfl⟩
  obtain ⟨b2, hb2⟩ : ∃ b2, b2 = l.set pl xx := ⟨_, rfl⟩
  obtain ⟨W2, hW2⟩ : ∃ W2, W2 = W1.setCell ⟨w.heap.size, pl, none⟩ (.int .u8 (xx.toNat : Int)) := ⟨_, rfl⟩
  have hB2 : Below w.heap.size w W2 := by rw [hW2]; exact hB1.setCell (p := ⟨w.heap.size, pl, none⟩) (Nat.le_refl _) _
  have hB2d : Below w.heap.size w W2.drew := ⟨hB2.os, hB2.tape, hB2.output, hB2.size, hB2.block⟩
  have hL2 := hL.below hB2d
  have hl2 : b2.length = l.length := by rw [hb2, List.length_set]
  have hconv := run_convert_bytes_back (P := Try.prog) W2.drew 34 9 5 ⟨w.heap.size, 0, none⟩ cb b2 Try.underlying34 Try.underlying5 Try.underlying9 (fun j hj => by
    rw [Go.WideShapes.add_plain, Nat.zero_add]
    show W2.cell? ⟨w.heap.size, j, none⟩ = _
    rw [hW2]
    by_cases ej : j = pl
    · subst ej
      rw [World.cell?_setCell_same _ _ _ (hcs j (by omega)).1]
      simp [hb2]
    · rw [World.cell?_setCell_other _ _ _ _ (fun e3 => ej (by cases e3; rfl))]
      rw [(hcs j (by omega)).1]
      simp only [hb2, List.getElem_set_ne (Ne.symm ej)])
  rw [hl2] at hconv
  have hset := hL2.setMail hi hBv b2
  have he : ({ e with bag := e.bag.set i { e.bag.getD i noMail with b := b2 } } : Eng) = e.spoil i pl (u8 c) := by
    unfold Eng.spoil Mail.spoil
    have hgx : l.getD pl 0 = x := by rw [hx, List.getD_eq_getElem?_getD, List.getElem?_eq_getElem hpl]; rfl
    rw [← hl, hb2, hgx, hxx]
  rw [he] at hset
  obtain ⟨W3, hW3⟩ : ∃ W3, W3 = W2.drew.setCell ⟨g, i * 3 + 2, none⟩ (.string ⟨b2.toArray⟩) := ⟨_, rfl⟩
  rw [← hW3] at hset
  have hgb := (hL.bag.lt g (by rw [hBv]; rfl))
  have HF := hide (And.intro hset (show Below base w W3 by rw [hW3]; exact (hB2d.mono hbw).setCell (p := ⟨g, i * 3 + 2, none⟩) hgb.1 _))
  have p1 := hL.head.cell 1
  have z1 := hL2.head.cell 1
  simp at p1 z1
  rw [hBv] at p1 z1
  have y1 := hL.mail hi
  obtain ⟨_, _, hq, _, _, k2⟩ := hL2.mail hi
  rw [hBv] at hq
  obtain ⟨rfl, rfl⟩ : g = _ ∧ cap = _ := by simpa using hq
  have kf : W2.drew.frozen? ⟨g, i * 3 + 2, none⟩ = false := by
    obtain ⟨_, ho2⟩ := hL2.bag
    rcases ho2 with ⟨h0, _⟩ | ⟨g', cap', cur, e1, hbase, hb, _⟩
    · rw [hBv] at h0; cases h0
    · rw [hBv] at e1
      obtain ⟨rfl, rfl⟩ : g = g' ∧ cap = cap' := by simpa using e1
      exact Blk.frozen hb _
  have HS := hide (fun W => sbelow_any (pl : Int) (l.length : Int) W)
  have hv : (decide (0 ≤ (pl : Int)) && decide ((pl : Int) < (l.length : Int))) = true := by simp; omega
  rw [hv] at HS
  have hbx := (spoil_byte x hc1 hc2)
  rw [← hxx] at hbx
  have hwr : IntKind.u8.wrap c = c := wrap_u8 (by omega) (by omega)
  have hcell := (hcs pl hpl).1
  have hfro := (hcs pl hpl).2
  rw [← hx] at hcell
  have hxl := x.toNat_lt
  have hcw := hcv w rfl
  have HW2 := hide hW2
  have HW3 := hide hW3
  generalize e.bag.length = len at *
  have hii : (i : Int) < (len : Int) := by omega
  obtain ⟨L, hL'⟩ : ∃ L, L = l.length := ⟨_, rfl⟩
  rw [← hL'] at hcw HS hpl _hlen hconv
  have hpi : (pl : Int) < (L : Int) := by omega
  have h1c : ¬ c < 1 := by omega
  have h2c : ¬ 255 < c := by omega
  have HB := hide hbx
  clear hL hBv hbw hB1 hcv hcs hL' m0 m1 hl hx hxx hb2 hW2 hB2 hB2d hL2 hl2 hset he hW3 hgb y1 hq hv hbx hs1
  go_enter Try.func185, Try.ntmps185
  go_wp2_with fail
  go_at_call 94
  refine (HS.out _).mono ?_
  rintro r w2 ⟨rfl, rfl⟩
  have hbx := HB.out
  have hxp := xx.toNat_lt
  go_wp2
  rw [← HW2.out]
  refine wp_region_last 9 _ (fun W => W = W2.drew) (valsE [.pointer (some ⟨P, 0, none⟩), .pointer (some ⟨P, 0, none⟩), .pointer (some ⟨P, 1, none⟩), .slice (some ⟨g, 0, none⟩) len cap, .int .i64 (i : Int), .slice (some ⟨w.heap.size, 0, none⟩) L cb, .string ⟨b2.toArray⟩, .pointer (some ⟨g, i * 3, none⟩), .pointer (some ⟨g, i * 3 + 2, none⟩)]) (fun _ W => W = W3) (fun _ _ _ => True) (by kernel_rfl) (by kernel_rfl) (by kernel_rfl) (by kernel_rfl) (by kernel_rfl) rfl rfl ⟨?_, ?_, ?_, ?_, ?_, ?_, ?_, ?_, ?_, trivial⟩ ?_ trivial ?_
  rotate_right
  · intro t W hG _
    simp only [fill, Act.put, List.setIfInBounds_toArray, List.set_cons_zero, List.set_cons_succ]
    subst hG
    go_wp2
    go_ret
    exact ⟨rfl, HF.out⟩
  rotate_right
  · intro t W hG hE _ K hK
    have e6 := valsE_get (hE 6 (by omega)) rfl
    have e8 := valsE_get (hE 8 (by omega)) rfl
    subst hG
    simp only [fill, Act.put, List.setIfInBounds_toArray, List.set_cons_zero, List.set_cons_succ, e6, e8] at hK ⊢
    rw [if_pos (by rfl)]
    go_simp
    exact hK undef _ HW3.out.symm
  all_goals intro t W hG hp ht K hK
  all_goals clear ht
  all_goals subst hG
  all_goals simp only [fill, Act.put, List.setIfInBounds_toArray, List.set_cons_zero, List.set_cons_succ] at hK ⊢
  · rw [if_pos (by rfl)]
    go_simp
    exact hK _ _ rfl rfl (fun _ _ _ h => h)
  · have e0 := valsE_get (hp 0 (by decide)) rfl
    simp only [e0] at hK ⊢
    rw [if_pos (by rfl)]
    go_simp
    exact hK _ _ rfl rfl (fun _ _ _ h => h)
  · have e1 := valsE_get (hp 1 (by decide)) rfl
    simp only [e1] at hK ⊢
    rw [if_pos (by rfl)]
    go_simp
    exact hK _ _ rfl rfl (fun _ _ _ h => h)
  · have e2 := valsE_get (hp 2 (by decide)) rfl
    simp only [e2] at hK ⊢
    rw [if_pos (by rfl)]
    go_simp
    exact hK _ _ rfl rfl (fun _ _ _ h => h)
  · rw [if_pos (by rfl)]
    go_simp
    exact hK _ _ rfl rfl (fun _ _ _ h => h)
  · rw [if_pos (by rfl)]
    go_simp
    exact hK _ _ rfl rfl (fun _ _ _ h => h)
  · have e5 := valsE_get (hp 5 (by decide)) rfl
    simp only [e5] at hK ⊢
    rw [if_pos (by rfl)]
    go_simp
    exact hK _ _ rfl rfl (fun _ _ _ h => h)
  · have e3 := valsE_get (hp 3 (by decide)) rfl
    have e4 := valsE_get (hp 4 (by decide)) rfl
    simp only [e3, e4] at hK ⊢
    rw [if_pos (by rfl)]
    go_simp
    exact hK _ _ rfl rfl (fun _ _ _ h => h)
  · have e7 := valsE_get (hp 7 (by decide)) rfl
    simp only [e7] at hK ⊢
    rw [if_pos (by rfl)]
    go_simp
    exact hK _ _ rfl rfl (fun _ _ _ h => h)

end Go.Proofs.Ytjhkadffaephmab
