/-
  Our own texts, bundled: a claim holds few files.
-/
import Derived.Test.YtjhkadffaephmabGreatCutEnginePlaysBB
import Derived.Test.YtjhkadffaephmabGreatCutEnginePlaysAG
import Derived.Test.YtjhkadffaephmabGreatCutEnginePlaysCC
import Derived.Test.YtjhkadffaephmabGreatCutEnginePlaysAF
import Derived.Test.YtjhkadffaephmabGreatCutEnginePlaysAI
/-
  signpostref.rowOf.
-/
namespace Go.Proofs.YtjhkadffaephmabGreat
set_option maxRecDepth 100000
open Go.RowKit

theorem Net.row_of {n : Net} {l : Nat} {f : Nat → Int} (h : (l : Int) = n.nodes) : n.row l f = if rowIn l f n.a.size = false then 5 else 0 := by
  unfold Net.row rowIn
  rw [if_neg (by omega)]

set_option maxHeartbeats 4000000 in
theorem rowOf_any (n : NetM) (a : Option Addr) (l c b o : Nat) (f : Nat → Int) (w : World) (hi : Ints a l b o f w) (hb : 0 < l → b < w.heap.size) (h2 : 2 ≤ n.a.size) (h24 : n.a.size ≤ 24) :
    Calls Tryz.prog 26 #[n.val, .slice a l c] w fun e w' => e = .returned (.int .i64 (n.net.row l f)) ∧ Below w.heap.size w w' := by
  have hlen := hi.len
  unfold maxLen at hlen
  have hB0 : Below w.heap.size w (w.alloc (.cells n.cells 27)) := (Below.refl _ w).alloc (Nat.le_refl _) _
  have b0 := Blk.new w n.cells 27
  have HX := hide (hi.below hB0 hb)
  have HB0 := hide hB0
  have Hd1 : Hid ((l : Int) ≠ n.nodes → n.net.row l f = 1) := hide (fun h => by unfold Net.row; rw [if_pos (show (l : Int) ≠ n.net.nodes from h)])
  have Hd2 : Hid ((l : Int) = n.nodes → n.net.row l f = if rowIn l f n.a.size = false then 5 else 0) := hide (fun h => Net.row_of h)
  clear hi hB0 hb
  simp only [NetM.val, NetM.cells, Mat.val] at *
  by_cases hl : (l : Int) = n.nodes
  rotate_left
  · have hl' : ((l : Int) != n.nodes) = true := by simp [hl]
    have hfin := hide (Hd1.out hl)
    clear hl Hd1 Hd2
    go_enter Tryz.func26, Tryz.ntmps26
    go_wp2
    go_ret
    exact ⟨by rw [hfin.out]; rfl, HB0.out⟩
  have hl' : ((l : Int) != n.nodes) = false := by simp [hl]
  have Hd3 := hide (Hd2.out hl)
  clear hl Hd1 Hd2
  obtain ⟨W0, hW0⟩ : ∃ W0, W0 = w.alloc (.cells #[.int .i64 n.a.size, .slice n.a.B.ga n.a.B.t.len n.a.B.cap, .slice n.a.E.ga n.a.E.t.len n.a.E.cap, .int .i64 n.nodes, .slice n.la n.ln n.lc] 27) := ⟨_, rfl⟩
  have x0 : W0.cell? ⟨w.heap.size, 0, none⟩ = some (.int .i64 n.a.size) := by rw [hW0]; exact b0.cell 0
  rw [← hW0] at HX HB0
  clear b0
  go_enter Tryz.func26, Tryz.ntmps26
  go_wp2_with fail
  rw [← hW0]
  clear hW0
  go_loopw [5] (fun q wr => ∃ k : Nat, k ≤ l ∧ q = .int .i64 k ∧ Hid (∀ r, r < k → 0 ≤ f r ∧ f r < n.a.size) ∧ Hid (∃ z, wr = W0.drewN z)) (fun q _ => l - (intOf q).toNat)
  case atStart => exact ⟨0, Nat.zero_le _, rfl, hide fun r hr => absurd hr (Nat.not_lt_zero _), hide ⟨0, rfl⟩⟩
  case round =>
    obtain ⟨k, hk, rfl, Hall, HD⟩ := hrel
    by_cases hlt : k < l
    · have hki : (k : Int) < (l : Int) := by omega
      have ha := HX.out.addr (by omega)
      have z3 : wr.cell? ⟨b, o + k, none⟩ = some (.int .i64 (f k)) := by obtain ⟨z, rfl⟩ := HD.out; exact HX.out.cell k hlt
      have z0 : wr.cell? ⟨w.heap.size, 0, none⟩ = some (.int .i64 n.a.size) := by obtain ⟨z, rfl⟩ := HD.out; exact x0
      have HQ := hide (fun W => between_q (f k) 0 (n.a.size - 1) W)
      by_cases hin : 0 ≤ f k ∧ f k ≤ n.a.size - 1
      · have hb : (decide (0 ≤ f k) && decide (f k ≤ n.a.size - 1)) = true := by simp [hin]
        rw [hb] at HQ
        have Hn : Hid (∀ r, r < k + 1 → 0 ≤ f r ∧ f r < n.a.size) := hide (fun r hr => by
          by_cases e : r = k
          · subst e; omega
          · exact Hall.out r (by omega))
        clear hin hb
        go_wp2_with fail
        go_quiet ((go_at_call 24; exact Calls.quiet_of (HQ.out _)))
        go_wp2
        go_roundw
        case rel =>
          first
          | exact ⟨k + 1, by omega, by go_num, Hn, hide (by obtain ⟨m, rfl⟩ := HD.out; exact ⟨_, by rw [World.drewN_drewN]⟩)⟩
          | ((try rw [← ha]); (repeat apply Exists.intro); refine ⟨?_, rfl⟩; exact ⟨k + 1, by omega, by go_num, Hn, hide (by obtain ⟨m, rfl⟩ := HD.out; exact ⟨_, by rw [World.drewN_drewN]⟩)⟩)
        case measure => simp [intOf]; omega
      · have hb : (decide (0 ≤ f k) && decide (f k ≤ n.a.size - 1)) = false := by simp; omega
        rw [hb] at HQ
        have hro : rowIn l f n.a.size = false := by
          cases hh : rowIn l f n.a.size with
          | false => rfl
          | true => exact absurd (rowIn_iff.1 hh k hlt) (by omega)
        have hfin : Hid (n.net.row l f = 5) := hide (by rw [Hd3.out, if_pos hro])
        clear hin hb hro Hd3
        go_wp2_with fail
        go_quiet ((go_at_call 24; exact Calls.quiet_of (HQ.out _)))
        go_wp2
        go_ret
        exact ⟨by rw [hfin.out]; rfl, by obtain ⟨m, rfl⟩ := HD.out; exact below_drewN (below_drewN HB0.out m) _⟩
    · have hki : (l : Int) ≤ (k : Int) := by omega
      have hro : rowIn l f n.a.size = true := rowIn_iff.2 (fun r hr => Hall.out r (by omega))
      have hfin : Hid (n.net.row l f = 0) := hide (by rw [Hd3.out, hro]; rfl)
      clear hro Hd3
      go_wp2
      go_ret
      exact ⟨by rw [hfin.out]; rfl, by obtain ⟨m, rfl⟩ := HD.out; exact below_drewN HB0.out m⟩

end Go.Proofs.YtjhkadffaephmabGreat

/-
  signpostref.StepOf: what stands all through it, and its end.
-/
namespace Go.Proofs.YtjhkadffaephmabGreat
set_option maxRecDepth 100000
open Go.RowKit

/-- The boxes of StepOf. -/
structure SB (w : World) (n : NetM) (x : EngM) (v : EvM) (W : World) : Prop where
  below : Below w.heap.size w W
  bn : Blk W w.heap.size n.cells 27
  bx : Blk W (w.heap.size + 1) x.cells 31
  bv : Blk W (w.heap.size + 2) v.cells 34
  br : Blk W (w.heap.size + 3) #[.slice none 0 0, .slice none 0 0] 31
theorem SB.keep {w : World} {n : NetM} {x : EngM} {v : EvM} {W W' : World} (h : SB w n x v W) (hb : Below W.heap.size W W') : SB w n x v W' :=
  ⟨h.below.trans (hb.mono h.below.size), h.bn.below hb h.bn.lt, h.bx.below hb h.bx.lt, h.bv.below hb h.bv.lt, h.br.below hb h.br.lt⟩
/-- A store behind the boxes. -/
theorem SB.set {w : World} {n : NetM} {x : EngM} {v : EvM} {W : World} (h : SB w n x v W) {q : Nat} (hq : w.heap.size + 3 < q) (j : Nat) (u : Value) : SB w n x v (W.setCell ⟨q, j, none⟩ u) :=
  ⟨h.below.setCell (p := ⟨q, j, none⟩) (by show w.heap.size ≤ q; omega) _, h.bn.other (by omega) _ _, h.bx.other (by omega) _ _, h.bv.other (by omega) _ _, h.br.other (by omega) _ _⟩
theorem SB.start (w : World) (n : NetM) (x : EngM) (v : EvM) : SB w n x v ((((w.alloc (.cells n.cells 27)).alloc (.cells x.cells 31)).alloc (.cells v.cells 34)).alloc (.cells #[.slice none 0 0, .slice none 0 0] 31)) :=
  ⟨(((((Below.refl _ w).alloc (Nat.le_refl _) _).alloc (by simp) _).alloc (by simp; omega) _).alloc (by simp; omega) _), ((((Blk.new w _ _).alloc _).alloc _).alloc _), ((show Blk _ (w.heap.size + 1) _ _ from Blk.new' (by simp)).alloc _).alloc _, (show Blk _ (w.heap.size + 2) _ _ from Blk.new' (by simp)).alloc _, Blk.new' (by simp)⟩

/-- Two cells that hold slices are set, in a block below all that the engine is. -/
theorem Live.setOld {base P N : Nat} {e : Eng} {Bv : Value} {y : Lay} {W : World} (h : Live base P N e Bv y W) (hN0 : 0 < N) {q : Nat} {t : TypeId} (hq : q < base) {a a' : Option Addr} {l c l' c' : Nat} (hb : Blk W q #[.slice a l c, .slice a' l' c'] t) (u v : Value) :
    Live base P N e Bv y ((W.setCell ⟨q, 0, none⟩ u).setCell ⟨q, 1, none⟩ v) := by
  obtain ⟨W2, hW2⟩ : ∃ W2, W2 = (W.setCell ⟨q, 0, none⟩ u).setCell ⟨q, 1, none⟩ v := ⟨_, rfl⟩
  have hws : W2.heap.size = W.heap.size := by rw [hW2]; simp
  have hno : ∀ b o z, W.cell? ⟨b, o, none⟩ = some (.int .i64 z) → b ≠ q := fun b o z hc e1 => by
    subst e1
    rw [hb.cell o] at hc
    rcases o with _ | _ | o
    · simp at hc
    · simp at hc
    · simp at hc
  have hcell : ∀ b o, b ≠ q → W2.cell? ⟨b, o, none⟩ = W.cell? ⟨b, o, none⟩ := fun b o hne => by rw [hW2, cell_other hne, cell_other hne]
  have hblk : ∀ b cs t, b ≠ q → Blk W b cs t → Blk W2 b cs t := fun b cs t hne hk => by rw [hW2]; exact (hk.other hne _ _).other hne _ _
  have hoff : ∀ b, y.Off P N Bv W b → y.Off P N Bv W2 b := fun b ho => ⟨ho.p, ho.g, ho.t, ho.v, by rw [hws]; exact ho.lt, ho.lo⟩
  have hp := h.lp
  have hg := h.lg
  have hbv : Bv.ownBlock ≠ some q := fun e1 => by have := (h.bag.lt q e1).1; omega
  rw [← hW2]
  refine ⟨hblk _ _ _ (by omega) h.head, hblk _ _ _ (by omega) h.rtrs, h.r0, h.r1, fun i hi => hblk _ _ _ (by have := h.lt i hi; omega) (h.tolds i hi), h.t0, fun i hi => ?_, fun i hi k hk ht => ?_, ?_, h.lp, h.lg, h.lt, h.pg, h.pt, h.gt, h.tt, h.bv, h.ylo⟩
  · obtain ⟨h1, h2⟩ := h.routes i hi
    exact ⟨hoff _ h1, fun j hj => by rw [hcell _ _ (hno _ _ _ (h2 0 hN0))]; exact h2 j hj⟩
  · obtain ⟨h1, h2, h3⟩ := h.rows i hi k hk ht
    exact ⟨h1, hoff _ h2, fun j hj => by rw [hcell _ _ (hno _ _ _ (h3 0 hN0))]; exact h3 j hj⟩
  · rw [hW2]
    exact ownsRow_setCell_other (ownsRow_setCell_other h.bag hbv _) hbv _

/-- What StepOf answers, of an engine that is right. -/
def StepRef (n : Net) (x : EngM) (v : Ev) (w : World) (r : Ending) (w' : World) : Prop :=
  Below w.heap.size w w' ∧
  ((x.eng.stepErr n v ≠ 0 ∧ r = .returned (.tuple #[zeroEng, .int .i64 (x.eng.stepErr n v)])) ∨
   (x.eng.stepErr n v = 0 ∧ ∃ m : EngM, r = .returned (.tuple #[m.val, .int .i64 0]) ∧ m.In w'.heap.size w' ∧ m.eng = x.eng.step n v ∧ m.err n = 0 ∧ m.bag.bn ≤ m.bag.bc ∧ m.Apart w'))

/-- The end: the engine goes into the result's box. -/
theorem step_fin {n : NetM} {x : EngM} {v : EvM} {w W : World} {base P N : Nat} {e : Eng} {Bv : Value} {y : Lay} (hL : Live base P N e Bv y W) (hs : SB w n x v W) (hlo : w.heap.size + 3 < base) (hck : n.net.check = 0) (hN : n.nodes = N) (hfit : e.Fit n.net) (he : e = x.eng.step n.net v.ev) (h0 : x.eng.stepErr n.net v.ev = 0) :
    StepRef n.net x v.ev w (.returned (.tuple #[.agg #[.slice (some ⟨y.G, 0, none⟩) N y.gc, Bv], .int .i64 0])) ((W.setCell ⟨w.heap.size + 3, 0, none⟩ (.slice (some ⟨y.G, 0, none⟩) N y.gc)).setCell ⟨w.heap.size + 3, 1, none⟩ Bv) := by
  obtain ⟨hN0, hN6, hNN, hnn⟩ := nodes_six hck hN
  have hl6 := hL.setOld hN0 hlo hs.br (.slice (some ⟨y.G, 0, none⟩) N y.gc) Bv
  obtain ⟨m, hmc, hmin, hme, hm1, hm2, hm3, hm4, hm5, hm6, hm7⟩ := hl6.outF hN0 hN6 hfit.many (fun m hm => (hfit.mail m hm).2.2)
  have hmr : m.err n.net = 0 := EngM.of_right ⟨hck, hm1, hm2, hm3, fun i hi q hq => by rw [hme]; exact hm4 i hi q hq, by rw [hm5]; exact hfit.many, by rw [hme]; exact hfit⟩ hnn
  exact ⟨(hs.below.setCell (p := ⟨w.heap.size + 3, 0, none⟩) (by show w.heap.size ≤ w.heap.size + 3; omega) _).setCell (p := ⟨w.heap.size + 3, 1, none⟩) (by show w.heap.size ≤ w.heap.size + 3; omega) _, Or.inr ⟨h0, m, by rw [EngM.val, hmc], hmin, by rw [hme]; exact he, hmr, hm6.cap, hm7⟩⟩
/-- The end with an error. -/
theorem step_no {n : NetM} {x : EngM} {v : EvM} {w W : World} {er : Int} (hs : SB w n x v W) (he : x.eng.stepErr n.net v.ev = er) (h0 : er ≠ 0) :
    StepRef n.net x v.ev w (.returned (.tuple #[.agg #[.slice none 0 0, .slice none 0 0], .int .i64 er])) ((W.setCell ⟨w.heap.size + 3, 0, none⟩ (.slice none 0 0)).setCell ⟨w.heap.size + 3, 1, none⟩ (.slice none 0 0)) :=
  ⟨(hs.below.setCell (p := ⟨w.heap.size + 3, 0, none⟩) (by show w.heap.size ≤ w.heap.size + 3; omega) _).setCell (p := ⟨w.heap.size + 3, 1, none⟩) (by show w.heap.size ≤ w.heap.size + 3; omega) _, Or.inl ⟨by rw [he]; exact h0, by rw [he]; rfl⟩⟩

end Go.Proofs.YtjhkadffaephmabGreat

/-
  What an event answers and does, kind by kind.
-/
namespace Go.Proofs.YtjhkadffaephmabGreat

section
variable {n : Net} {e : Eng} {v : Ev}
theorem Eng.err_kind (h : v.kind < 1 ∨ 7 < v.kind) : e.stepErr n v = 7 := by unfold Eng.stepErr; rw [if_pos h]
theorem Eng.err_place (h2 : 2 ≤ v.kind) (h5 : v.kind ≤ 5) (h : v.loc < 0 ∨ (e.bag.length : Int) ≤ v.loc) : e.stepErr n v = 5 := by unfold Eng.stepErr; rw [if_neg (by omega), if_pos (by omega), if_pos h]
theorem Eng.err_node (hk : v.kind = 1 ∨ v.kind = 6 ∨ v.kind = 7) (h : v.loc < 0 ∨ n.nodes ≤ v.loc) : e.stepErr n v = 5 := by unfold Eng.stepErr; rw [if_neg (by omega), if_neg (by omega), if_pos h]
theorem Eng.err_tick (hk : v.kind = 1) (h0 : 0 ≤ v.loc) (h1 : v.loc < n.nodes) : e.stepErr n v = if 120 < e.bag.length + (n.hearers v.loc.toNat).length then 2 else 0 := by unfold Eng.stepErr; rw [if_neg (by omega), if_neg (by omega), if_neg (by omega), if_pos hk]
theorem Eng.err_deliver (hk : v.kind = 2) (h0 : 0 ≤ v.loc) (h1 : v.loc < e.bag.length) : e.stepErr n v = 0 := by unfold Eng.stepErr; rw [if_neg (by omega), if_pos (by omega), if_neg (by omega), if_neg (by omega), if_neg (by omega)]
theorem Eng.err_twice (hk : v.kind = 3) (h0 : 0 ≤ v.loc) (h1 : v.loc < e.bag.length) : e.stepErr n v = if 120 ≤ e.bag.length then 2 else 0 := by unfold Eng.stepErr; rw [if_neg (by omega), if_pos (by omega), if_neg (by omega), if_pos hk]
theorem Eng.err_lose (hk : v.kind = 4) (h0 : 0 ≤ v.loc) (h1 : v.loc < e.bag.length) : e.stepErr n v = 0 := by unfold Eng.stepErr; rw [if_neg (by omega), if_pos (by omega), if_neg (by omega), if_neg (by omega), if_neg (by omega)]
theorem Eng.err_spoil (hk : v.kind = 5) (h0 : 0 ≤ v.loc) (h1 : v.loc < e.bag.length) : e.stepErr n v = if (v.b < 0 ∨ ((e.bag.getD v.loc.toNat noMail).b.length : Int) ≤ v.b) ∨ (v.c < 1 ∨ 255 < v.c) then 3 else 0 := by unfold Eng.stepErr; rw [if_neg (by omega), if_pos (by omega), if_neg (by omega), if_neg (by omega), if_pos hk]
theorem Eng.err_expire (hk : v.kind = 6) (h0 : 0 ≤ v.loc) (h1 : v.loc < n.nodes) : e.stepErr n v = if v.b < 0 ∨ n.nodes ≤ v.b then 5 else 0 := by unfold Eng.stepErr; rw [if_neg (by omega), if_neg (by omega), if_neg (by omega), if_neg (by omega), if_pos hk]
theorem Eng.err_restart (hk : v.kind = 7) (h0 : 0 ≤ v.loc) (h1 : v.loc < n.nodes) : e.stepErr n v = n.row v.n v.R := by unfold Eng.stepErr; rw [if_neg (by omega), if_neg (by omega), if_neg (by omega), if_neg (by omega), if_neg (by omega)]
theorem Eng.does_tick (hk : v.kind = 1) : e.step n v = e.tick n v.loc.toNat := by unfold Eng.step; rw [if_pos hk]
theorem Eng.does_deliver (hk : v.kind = 2) : e.step n v = e.deliver n v.loc.toNat := by unfold Eng.step; rw [if_neg (by omega), if_pos hk]
theorem Eng.does_twice (hk : v.kind = 3) : e.step n v = e.twice v.loc.toNat := by unfold Eng.step; rw [if_neg (by omega), if_neg (by omega), if_pos hk]
theorem Eng.does_lose (hk : v.kind = 4) : e.step n v = e.without v.loc.toNat := by unfold Eng.step; rw [if_neg (by omega), if_neg (by omega), if_neg (by omega), if_pos hk]
theorem Eng.does_spoil (hk : v.kind = 5) : e.step n v = e.spoil v.loc.toNat v.b.toNat (u8 v.c) := by unfold Eng.step; rw [if_neg (by omega), if_neg (by omega), if_neg (by omega), if_neg (by omega), if_pos hk]
theorem Eng.does_expire (hk : v.kind = 6) : e.step n v = e.expire n v.loc.toNat v.b.toNat := by unfold Eng.step; rw [if_neg (by omega), if_neg (by omega), if_neg (by omega), if_neg (by omega), if_neg (by omega), if_pos hk]
theorem Eng.does_restart (hk : v.kind = 7) : e.step n v = e.restart v.loc.toNat v.R := by unfold Eng.step; rw [if_neg (by omega), if_neg (by omega), if_neg (by omega), if_neg (by omega), if_neg (by omega), if_neg (by omega)]
end

end Go.Proofs.YtjhkadffaephmabGreat

/-
 signpostref.StepOf: a kind or a place that is none.
-/
namespace Go.Proofs.YtjhkadffaephmabGreat
set_option maxRecDepth 100000
open Go.RowKit

set_option maxHeartbeats 16000000 in
theorem stepOf_kind (n : NetM) (x : EngM) (v : EvM) (N : Nat) (w : World) (h : n.In w.heap.size w) (hx : x.In w.heap.size w) (hv : v.In w.heap.size w) (hN : n.nodes = N) (hR : x.Right n.net N) (_hcap : x.bag.bn ≤ x.bag.bc) (hkd : v.kind < 1 ∨ 7 < v.kind) :
  Calls Tryz.prog 10 #[n.val, x.val, v.val] w fun r w' => StepRef n.net x v.ev w r w' := by
 obtain ⟨hN0, hN6, hNN, hnn⟩ := nodes_six hR.check hN
 have hnn' : n.net.nodes = n.nodes := rfl
 have hlen : x.eng.bag.length = x.bag.bn := by show ((List.range x.bag.bn).map x.bag.M).length = _; simp
 have hbn := hR.bn
 have Her : Hid (x.eng.stepErr n.net v.ev = 7) := hide (Eng.err_kind (v := v.ev) hkd)
 obtain ⟨W0, hW0⟩ : ∃ W0, W0 = (((w.alloc (.cells n.cells 27)).alloc (.cells x.cells 31)).alloc (.cells v.cells 34)).alloc (.cells #[.slice none 0 0, .slice none 0 0] 31) := ⟨_, rfl⟩
 have hs0 : SB w n x v W0 := by rw [hW0]; exact SB.start w n x v
 have hz0 : W0.heap.size = w.heap.size + 4 := by rw [hW0]; simp
 have hnc : n.cells = #[.int .i64 n.a.size, .slice n.a.B.ga n.a.B.t.len n.a.B.cap, .slice n.a.E.ga n.a.E.t.len n.a.E.cap, .int .i64 N, .slice n.la n.ln n.lc] := by simp only [NetM.cells, Mat.val, hN]
 have hvc : v.cells = #[.int .i64 v.kind, .int .i64 v.loc, .int .i64 v.b, .int .i64 v.c, .slice v.ra v.rl v.rc] := rfl
 have hxc : x.cells = #[.slice x.rs.ga x.rs.gn x.rs.gc, .slice x.bag.ba x.bag.bn x.bag.bc] := rfl
 have H := hide h
 have Hx := hide hx
 have Hv := hide hv
 have HR := hide hR
 have Hs0 := hide hs0
 have Hz0 := hide hz0
 have Hnc := hide hnc
 have Hvc := hide hvc
 have Hxc := hide hxc
 have HN := hide hN
 have Hlen := hide hlen
 have Hnn := hide hnn
 have HNN := hide hNN
 have HIs := hide (fun (i : Int) (W : World) => isNode_any n i W (by omega) (by omega))
 simp only [NetM.val, hnc, hN] at HIs
 rw [hnc, hvc, hxc] at hW0
 simp only [NetM.val, EngM.val, EvM.val, hnc, hvc, hxc]
 have HW0 := hide hW0
 have v0 := Hs0.out.bv.cell 0
 have v1 := Hs0.out.bv.cell 1
 have v2 := Hs0.out.bv.cell 2
 have v3 := Hs0.out.bv.cell 3
 have v4 := Hs0.out.bv.cell 4
 rw [Hvc.out] at v0 v1 v2 v3 v4
 simp at v0 v1 v2 v3 v4
 have n0 := Hs0.out.bn.cell 0
 have n1 := Hs0.out.bn.cell 1
 have n2 := Hs0.out.bn.cell 2
 have n3 := Hs0.out.bn.cell 3
 have n4 := Hs0.out.bn.cell 4
 rw [Hnc.out] at n0 n1 n2 n3 n4
 simp at n0 n1 n2 n3 n4
 have x0 := Hs0.out.bx.cell 0
 have x1 := Hs0.out.bx.cell 1
 rw [Hxc.out] at x0 x1
 simp at x0 x1
 clear h hx hv hR hs0 hz0 hnc hvc hxc hN hW0 hlen hnn hNN hnn' 
 go_enter Tryz.func10, Tryz.ntmps10
 go_wp2_with fail
 rw [← HW0.out]
 go_at_call 24
 refine (between_any _ _ _ _).mono ?_
 rintro e w1 ⟨rfl, hw1⟩
 rw [hw1]
 clear hw1
 have hb1 : (decide ((1 : Int) ≤ v.kind) && decide (v.kind ≤ 7)) = false := by simp; omega
 rw [hb1]
 clear hb1
 have HF := hide (step_no (er := 7) Hs0.out (Her.out) (by decide))
 have c7 := (Hs0.out.br.set 0 (.slice none 0 0)).set 1 (.slice none 0 0)
 have e0 := c7.cell 0
 have e1 := c7.cell 1
 simp at e0 e1
 have r0 := Hs0.out.br.cell 0
 have r1 := Hs0.out.br.cell 1
 have fr0 := Hs0.out.br.frozen 0
 have fr1 := Hs0.out.br.frozen 1
 simp at r0 r1
 clear c7
 go_wp2
 exact bodyPost_ret (v := .tuple #[.agg #[.slice none 0 0, .slice none 0 0], .int .i64 7]) (by simp [results, Tryz.results10, go_sem, e0, e1]) rfl HF.out

set_option maxHeartbeats 16000000 in
theorem stepOf_place (n : NetM) (x : EngM) (v : EvM) (N : Nat) (w : World) (h : n.In w.heap.size w) (hx : x.In w.heap.size w) (hv : v.In w.heap.size w) (hN : n.nodes = N) (hR : x.Right n.net N) (_hcap : x.bag.bn ≤ x.bag.bc) (h2 : 2 ≤ v.kind) (h5 : v.kind ≤ 5) (hpl : v.loc < 0 ∨ (x.bag.bn : Int) ≤ v.loc) :
  Calls Tryz.prog 10 #[n.val, x.val, v.val] w fun r w' => StepRef n.net x v.ev w r w' := by
 obtain ⟨hN0, hN6, hNN, hnn⟩ := nodes_six hR.check hN
 have hnn' : n.net.nodes = n.nodes := rfl
 have hlen : x.eng.bag.length = x.bag.bn := by show ((List.range x.bag.bn).map x.bag.M).length = _; simp
 have hbn := hR.bn
 have Her : Hid (x.eng.stepErr n.net v.ev = 5) := hide (Eng.err_place (v := v.ev) h2 h5 (by rw [hlen]; exact hpl))
 obtain ⟨W0, hW0⟩ : ∃ W0, W0 = (((w.alloc (.cells n.cells 27)).alloc (.cells x.cells 31)).alloc (.cells v.cells 34)).alloc (.cells #[.slice none 0 0, .slice none 0 0] 31) := ⟨_, rfl⟩
 have hs0 : SB w n x v W0 := by rw [hW0]; exact SB.start w n x v
 have hz0 : W0.heap.size = w.heap.size + 4 := by rw [hW0]; simp
 have hnc : n.cells = #[.int .i64 n.a.size, .slice n.a.B.ga n.a.B.t.len n.a.B.cap, .slice n.a.E.ga n.a.E.t.len n.a.E.cap, .int .i64 N, .slice n.la n.ln n.lc] := by simp only [NetM.cells, Mat.val, hN]
 have hvc : v.cells = #[.int .i64 v.kind, .int .i64 v.loc, .int .i64 v.b, .int .i64 v.c, .slice v.ra v.rl v.rc] := rfl
 have hxc : x.cells = #[.slice x.rs.ga x.rs.gn x.rs.gc, .slice x.bag.ba x.bag.bn x.bag.bc] := rfl
 have H := hide h
 have Hx := hide hx
 have Hv := hide hv
 have HR := hide hR
 have Hs0 := hide hs0
 have Hz0 := hide hz0
 have Hnc := hide hnc
 have Hvc := hide hvc
 have Hxc := hide hxc
 have HN := hide hN
 have Hlen := hide hlen
 have Hnn := hide hnn
 have HNN := hide hNN
 have HIs := hide (fun (i : Int) (W : World) => isNode_any n i W (by omega) (by omega))
 simp only [NetM.val, hnc, hN] at HIs
 rw [hnc, hvc, hxc] at hW0
 simp only [NetM.val, EngM.val, EvM.val, hnc, hvc, hxc]
 have HW0 := hide hW0
 have v0 := Hs0.out.bv.cell 0
 have v1 := Hs0.out.bv.cell 1
 have v2 := Hs0.out.bv.cell 2
 have v3 := Hs0.out.bv.cell 3
 have v4 := Hs0.out.bv.cell 4
 rw [Hvc.out] at v0 v1 v2 v3 v4
 simp at v0 v1 v2 v3 v4
 have n0 := Hs0.out.bn.cell 0
 have n1 := Hs0.out.bn.cell 1
 have n2 := Hs0.out.bn.cell 2
 have n3 := Hs0.out.bn.cell 3
 have n4 := Hs0.out.bn.cell 4
 rw [Hnc.out] at n0 n1 n2 n3 n4
 simp at n0 n1 n2 n3 n4
 have x0 := Hs0.out.bx.cell 0
 have x1 := Hs0.out.bx.cell 1
 rw [Hxc.out] at x0 x1
 simp at x0 x1
 clear h hx hv hR hs0 hz0 hnc hvc hxc hN hW0 hlen hnn hNN hnn' 
 go_enter Tryz.func10, Tryz.ntmps10
 go_wp2_with fail
 rw [← HW0.out]
 go_at_call 24
 refine (between_any _ _ _ _).mono ?_
 rintro e w1 ⟨rfl, hw1⟩
 rw [hw1]
 clear hw1
 have hb1 : (decide ((1 : Int) ≤ v.kind) && decide (v.kind ≤ 7)) = true := by simp; omega
 rw [hb1]
 clear hb1
 go_wp2_with fail
 go_at_call 24
 refine (between_any _ _ _ _).mono ?_
 rintro e w1 ⟨rfl, hw1⟩
 rw [hw1]
 clear hw1
 have hb2 : (decide ((2 : Int) ≤ v.kind) && decide (v.kind ≤ 5)) = true := by simp; omega
 rw [hb2]
 clear hb2
 go_wp2_with fail
 go_at_call 24
 refine (between_any _ _ _ _).mono ?_
 rintro e w1 ⟨rfl, hw1⟩
 rw [hw1]
 clear hw1
 have hb3 : (decide (0 ≤ v.loc) && decide (v.loc ≤ (x.bag.bn : Int) - 1)) = false := by simp; omega
 rw [hb3]
 clear hb3
 have HF := hide (step_no (er := 5) Hs0.out (Her.out) (by decide))
 have c7 := (Hs0.out.br.set 0 (.slice none 0 0)).set 1 (.slice none 0 0)
 have e0 := c7.cell 0
 have e1 := c7.cell 1
 simp at e0 e1
 have r0 := Hs0.out.br.cell 0
 have r1 := Hs0.out.br.cell 1
 have fr0 := Hs0.out.br.frozen 0
 have fr1 := Hs0.out.br.frozen 1
 simp at r0 r1
 clear c7
 go_wp2
 exact bodyPost_ret (v := .tuple #[.agg #[.slice none 0 0, .slice none 0 0], .int .i64 5]) (by simp [results, Tryz.results10, go_sem, e0, e1]) rfl HF.out

set_option maxHeartbeats 16000000 in
theorem stepOf_node (n : NetM) (x : EngM) (v : EvM) (N : Nat) (w : World) (h : n.In w.heap.size w) (hx : x.In w.heap.size w) (hv : v.In w.heap.size w) (hN : n.nodes = N) (hR : x.Right n.net N) (_hcap : x.bag.bn ≤ x.bag.bc) (hkd : v.kind = 1 ∨ v.kind = 6 ∨ v.kind = 7) (hpl : v.loc < 0 ∨ (N : Int) ≤ v.loc) :
  Calls Tryz.prog 10 #[n.val, x.val, v.val] w fun r w' => StepRef n.net x v.ev w r w' := by
 obtain ⟨hN0, hN6, hNN, hnn⟩ := nodes_six hR.check hN
 have hnn' : n.net.nodes = n.nodes := rfl
 have hlen : x.eng.bag.length = x.bag.bn := by show ((List.range x.bag.bn).map x.bag.M).length = _; simp
 have hbn := hR.bn
 have Her : Hid (x.eng.stepErr n.net v.ev = 5) := hide (Eng.err_node (v := v.ev) hkd (by rw [hnn]; exact hpl))
 obtain ⟨W0, hW0⟩ : ∃ W0, W0 = (((w.alloc (.cells n.cells 27)).alloc (.cells x.cells 31)).alloc (.cells v.cells 34)).alloc (.cells #[.slice none 0 0, .slice none 0 0] 31) := ⟨_, rfl⟩
 have hs0 : SB w n x v W0 := by rw [hW0]; exact SB.start w n x v
 have hz0 : W0.heap.size = w.heap.size + 4 := by rw [hW0]; simp
 have hnc : n.cells = #[.int .i64 n.a.size, .slice n.a.B.ga n.a.B.t.len n.a.B.cap, .slice n.a.E.ga n.a.E.t.len n.a.E.cap, .int .i64 N, .slice n.la n.ln n.lc] := by simp only [NetM.cells, Mat.val, hN]
 have hvc : v.cells = #[.int .i64 v.kind, .int .i64 v.loc, .int .i64 v.b, .int .i64 v.c, .slice v.ra v.rl v.rc] := rfl
 have hxc : x.cells = #[.slice x.rs.ga x.rs.gn x.rs.gc, .slice x.bag.ba x.bag.bn x.bag.bc] := rfl
 have H := hide h
 have Hx := hide hx
 have Hv := hide hv
 have HR := hide hR
 have Hs0 := hide hs0
 have Hz0 := hide hz0
 have Hnc := hide hnc
 have Hvc := hide hvc
 have Hxc := hide hxc
 have HN := hide hN
 have Hlen := hide hlen
 have Hnn := hide hnn
 have HNN := hide hNN
 have HIs := hide (fun (i : Int) (W : World) => isNode_any n i W (by omega) (by omega))
 simp only [NetM.val, hnc, hN] at HIs
 rw [hnc, hvc, hxc] at hW0
 simp only [NetM.val, EngM.val, EvM.val, hnc, hvc, hxc]
 have HW0 := hide hW0
 have v0 := Hs0.out.bv.cell 0
 have v1 := Hs0.out.bv.cell 1
 have v2 := Hs0.out.bv.cell 2
 have v3 := Hs0.out.bv.cell 3
 have v4 := Hs0.out.bv.cell 4
 rw [Hvc.out] at v0 v1 v2 v3 v4
 simp at v0 v1 v2 v3 v4
 have n0 := Hs0.out.bn.cell 0
 have n1 := Hs0.out.bn.cell 1
 have n2 := Hs0.out.bn.cell 2
 have n3 := Hs0.out.bn.cell 3
 have n4 := Hs0.out.bn.cell 4
 rw [Hnc.out] at n0 n1 n2 n3 n4
 simp at n0 n1 n2 n3 n4
 have x0 := Hs0.out.bx.cell 0
 have x1 := Hs0.out.bx.cell 1
 rw [Hxc.out] at x0 x1
 simp at x0 x1
 clear h hx hv hR hs0 hz0 hnc hvc hxc hN hW0 hlen hnn hNN hnn' 
 go_enter Tryz.func10, Tryz.ntmps10
 go_wp2_with fail
 rw [← HW0.out]
 go_at_call 24
 refine (between_any _ _ _ _).mono ?_
 rintro e w1 ⟨rfl, hw1⟩
 rw [hw1]
 clear hw1
 have hb1 : (decide ((1 : Int) ≤ v.kind) && decide (v.kind ≤ 7)) = true := by simp; omega
 rw [hb1]
 clear hb1
 go_wp2_with fail
 go_at_call 24
 refine (between_any _ _ _ _).mono ?_
 rintro e w1 ⟨rfl, hw1⟩
 rw [hw1]
 clear hw1
 have hb2 : (decide ((2 : Int) ≤ v.kind) && decide (v.kind ≤ 5)) = false := by simp; omega
 rw [hb2]
 clear hb2
 go_wp2_with fail
 go_at_call 25
 refine (HIs.out _ _).mono ?_
 rintro e W1 ⟨rfl, hW1⟩
 have Hb01 : Hid (Below W0.heap.size W0 W1) := hide (by rw [hW1]; exact (Below.refl _ _).alloc (Nat.le_refl _) _)
 have Hs1 := hide (Hs0.out.keep Hb01.out)
 clear hW1  v0 v1 v2 v3 v4 n0 n1 n2 n3 n4 x0 x1
 have hb3 : (decide (0 ≤ v.loc) && decide (v.loc ≤ (N : Int) - 1)) = false := by simp; omega
 rw [hb3]
 clear hb3
 have HF := hide (step_no (er := 5) Hs1.out (Her.out) (by decide))
 have c7 := (Hs1.out.br.set 0 (.slice none 0 0)).set 1 (.slice none 0 0)
 have e0 := c7.cell 0
 have e1 := c7.cell 1
 simp at e0 e1
 have r0 := Hs1.out.br.cell 0
 have r1 := Hs1.out.br.cell 1
 have fr0 := Hs1.out.br.frozen 0
 have fr1 := Hs1.out.br.frozen 1
 simp at r0 r1
 clear c7
 go_wp2
 exact bodyPost_ret (v := .tuple #[.agg #[.slice none 0 0, .slice none 0 0], .int .i64 5]) (by simp [results, Tryz.results10, go_sem, e0, e1]) rfl HF.out

end Go.Proofs.YtjhkadffaephmabGreat

/-
 signpostref.StepOf: what was told expires.
-/
namespace Go.Proofs.YtjhkadffaephmabGreat
set_option maxRecDepth 100000
open Go.RowKit

/-- What Live's numbers come to, as an engine that is right. -/
theorem Live.right {base P N : Nat} {e : Eng} {Bv : Value} {y : Lay} {W : World} {n : NetM} (h : Live base P N e Bv y W) (hck : n.net.check = 0) (hN : n.nodes = N) (hfit : e.Fit n.net) :
  ∃ m : EngM, m.cells = #[.slice (some ⟨y.G, 0, none⟩) N y.gc, Bv] ∧ m.In W.heap.size W ∧ m.eng = e ∧ m.Right n.net N ∧ m.bag.bn ≤ m.bag.bc := by
 obtain ⟨hN0, hN6, hNN, hnn⟩ := nodes_six hck hN
 obtain ⟨m, hmc, hmin, hme, hm1, hm2, hm3, hm4, hm5, hm6, _⟩ := h.outF hN0 hN6 hfit.many (fun m hm => (hfit.mail m hm).2.2)
 exact ⟨m, hmc, hmin, hme, ⟨hck, hm1, hm2, hm3, fun i hi q hq => by rw [hme]; exact hm4 i hi q hq, by rw [hm5]; exact hfit.many, by rw [hme]; exact hfit⟩, hm6.cap⟩
def Eng.untell (e : Eng) (i k : Nat) : Eng := { e with told := fun a b => if a = i ∧ b = k then false else e.told a b }
theorem Eng.Fit.untell {n : Net} {e : Eng} (h : e.Fit n) (i k : Nat) : (e.untell i k).Fit n :=
 ⟨h.R, fun a b j ha hb hj ht => by
  have ht' : (if a = i ∧ b = k then false else e.told a b) = true := ht
  split at ht'
  ·cases ht'
  ·exact h.D a b j ha hb hj ht', h.many, h.mail⟩

set_option maxHeartbeats 16000000 in
theorem stepOf_expire (n : NetM) (x : EngM) (v : EvM) (N : Nat) (w : World) (h : n.In w.heap.size w) (hx : x.In w.heap.size w) (hv : v.In w.heap.size w) (hN : n.nodes = N) (hR : x.Right n.net N) (_hcap : x.bag.bn ≤ x.bag.bc) (k : Nat) (hk : v.loc = (k : Int)) (hkd : v.kind = 6) (hkN : k < N) :
  Calls Tryz.prog 10 #[n.val, x.val, v.val] w fun r w' => StepRef n.net x v.ev w r w' := by
 obtain ⟨hN0, hN6, hNN, hnn⟩ := nodes_six hR.check hN
 have hnn' : n.net.nodes = n.nodes := rfl
 have hlen : x.eng.bag.length = x.bag.bn := by show ((List.range x.bag.bn).map x.bag.M).length = _; simp
 have hbn := hR.bn
 have herr := Eng.err_expire (n := n.net) (e := x.eng) (v := v.ev) hkd (show 0 ≤ v.loc by omega) (show v.loc < n.net.nodes by omega)
 have Herr : Hid (x.eng.stepErr n.net v.ev = if v.b < 0 ∨ (N : Int) ≤ v.b then 5 else 0) := hide (by rw [herr, hnn]; rfl)
 have Hstep : Hid (∀ b : Nat, v.b = b → x.eng.step n.net v.ev = (x.eng.untell k b).look n.net k) := hide (fun b hb => by rw [Eng.does_expire (v := v.ev) hkd]; show x.eng.expire n.net v.loc.toNat v.b.toNat = _; rw [hk, hb]; rfl)
 have HCp := hide (fun W (hb : Below w.heap.size w W) => refCopied_any x N W (hx.grown hb) hR.gn hN0 hN6 hR.bn hR.rl hR.tl hR.ll)
 have HLk := hide (fun (m : EngM) W (hb : Below w.heap.size w W) (hm : m.In W.heap.size W) (hr : m.Right n.net N) => refLooked_any n m N k W (h.grown hb) hm hN hr hkN)
 have hncE : n.cells = #[.int .i64 n.a.size, .slice n.a.B.ga n.a.B.t.len n.a.B.cap, .slice n.a.E.ga n.a.E.t.len n.a.E.cap, .int .i64 N, .slice n.la n.ln n.lc] := by simp only [NetM.cells, Mat.val, hN]
 simp only [EngM.val, EngM.cells, NetM.val, hncE] at HCp HLk
 clear herr hncE
 obtain ⟨W0, hW0⟩ : ∃ W0, W0 = (((w.alloc (.cells n.cells 27)).alloc (.cells x.cells 31)).alloc (.cells v.cells 34)).alloc (.cells #[.slice none 0 0, .slice none 0 0] 31) := ⟨_, rfl⟩
 have hs0 : SB w n x v W0 := by rw [hW0]; exact SB.start w n x v
 have hz0 : W0.heap.size = w.heap.size + 4 := by rw [hW0]; simp
 have hnc : n.cells = #[.int .i64 n.a.size, .slice n.a.B.ga n.a.B.t.len n.a.B.cap, .slice n.a.E.ga n.a.E.t.len n.a.E.cap, .int .i64 N, .slice n.la n.ln n.lc] := by simp only [NetM.cells, Mat.val, hN]
 have hvc : v.cells = #[.int .i64 6, .int .i64 (k : Int), .int .i64 v.b, .int .i64 v.c, .slice v.ra v.rl v.rc] := by rw [← hkd, ← hk]; rfl
 have hxc : x.cells = #[.slice x.rs.ga x.rs.gn x.rs.gc, .slice x.bag.ba x.bag.bn x.bag.bc] := rfl
 have H := hide h
 have Hx := hide hx
 have Hv := hide hv
 have HR := hide hR
 have Hs0 := hide hs0
 have Hz0 := hide hz0
 have Hnc := hide hnc
 have Hvc := hide hvc
 have Hxc := hide hxc
 have HN := hide hN
 have Hlen := hide hlen
 have Hnn := hide hnn
 have HNN := hide hNN
 have Hkd := hide hkd
 have Hk := hide hk
 have HIs := hide (fun (i : Int) (W : World) => isNode_any n i W (by omega) (by omega))
 simp only [NetM.val, hnc, hN] at HIs
 rw [hnc, hvc, hxc] at hW0
 simp only [NetM.val, EngM.val, EvM.val, hnc, hvc, hxc]
 have HW0 := hide hW0
 have v0 := Hs0.out.bv.cell 0
 have v1 := Hs0.out.bv.cell 1
 have v2 := Hs0.out.bv.cell 2
 have v3 := Hs0.out.bv.cell 3
 have v4 := Hs0.out.bv.cell 4
 rw [Hvc.out] at v0 v1 v2 v3 v4
 simp at v0 v1 v2 v3 v4
 have n0 := Hs0.out.bn.cell 0
 have n1 := Hs0.out.bn.cell 1
 have n2 := Hs0.out.bn.cell 2
 have n3 := Hs0.out.bn.cell 3
 have n4 := Hs0.out.bn.cell 4
 rw [Hnc.out] at n0 n1 n2 n3 n4
 simp at n0 n1 n2 n3 n4
 have x0 := Hs0.out.bx.cell 0
 have x1 := Hs0.out.bx.cell 1
 rw [Hxc.out] at x0 x1
 simp at x0 x1
 clear h hx hv hR hs0 hz0 hnc hvc hxc hN hW0 hlen hnn hNN hkd hnn' hk 
 go_enter Tryz.func10, Tryz.ntmps10
 go_wp2_with fail
 rw [← HW0.out]
 go_at_call 24
 refine (between_any _ _ _ _).mono ?_
 rintro e w1 ⟨rfl, hw1⟩
 rw [hw1]
 clear hw1
 have hb1 : (decide ((1 : Int) ≤ 6) && decide ((6 : Int) ≤ 7)) = true := by decide
 rw [hb1]
 clear hb1
 go_wp2_with fail
 go_at_call 24
 refine (between_any _ _ _ _).mono ?_
 rintro e w1 ⟨rfl, hw1⟩
 rw [hw1]
 clear hw1
 have hb2 : (decide ((2 : Int) ≤ 6) && decide ((6 : Int) ≤ 5)) = false := by decide
 rw [hb2]
 clear hb2
 go_wp2_with fail
 go_at_call 25
 refine (HIs.out _ _).mono ?_
 rintro e W1 ⟨rfl, hW1⟩
 have Hb01 : Hid (Below W0.heap.size W0 W1) := hide (by rw [hW1]; exact (Below.refl _ _).alloc (Nat.le_refl _) _)
 have Hs1 := hide (Hs0.out.keep Hb01.out)
 have Hz1 : Hid (w.heap.size + 4 ≤ W1.heap.size) := hide (by have := Hb01.out.size; have := Hz0.out; omega)
 clear hW1  v0 v1 v2 v3 v4 n0 n1 n2 n3 n4 x0 x1
 have v0 := Hs1.out.bv.cell 0
 have v1 := Hs1.out.bv.cell 1
 have v2 := Hs1.out.bv.cell 2
 have v3 := Hs1.out.bv.cell 3
 have v4 := Hs1.out.bv.cell 4
 rw [Hvc.out] at v0 v1 v2 v3 v4
 simp at v0 v1 v2 v3 v4
 have n0 := Hs1.out.bn.cell 0
 have n1 := Hs1.out.bn.cell 1
 have n2 := Hs1.out.bn.cell 2
 have n3 := Hs1.out.bn.cell 3
 have n4 := Hs1.out.bn.cell 4
 rw [Hnc.out] at n0 n1 n2 n3 n4
 simp at n0 n1 n2 n3 n4
 have x0 := Hs1.out.bx.cell 0
 have x1 := Hs1.out.bx.cell 1
 rw [Hxc.out] at x0 x1
 simp at x0 x1
 have hb3 : (decide (0 ≤ (k : Int)) && decide ((k : Int) ≤ (N : Int) - 1)) = true := by simp; omega
 rw [hb3]
 clear hb3
 go_wp2_with fail
 go_at_call 25
 refine (HIs.out _ _).mono ?_
 rintro e W2 ⟨rfl, hW2⟩
 have Hb12 : Hid (Below W1.heap.size W1 W2) := hide (by rw [hW2]; exact (Below.refl _ _).alloc (Nat.le_refl _) _)
 have Hs2 := hide (Hs1.out.keep Hb12.out)
 have Hz2 : Hid (w.heap.size + 4 ≤ W2.heap.size) := hide (by have := Hb12.out.size; have := Hz1.out; omega)
 clear hW2  v0 v1 v2 v3 v4 n0 n1 n2 n3 n4 x0 x1
 have v0 := Hs2.out.bv.cell 0
 have v1 := Hs2.out.bv.cell 1
 have v2 := Hs2.out.bv.cell 2
 have v3 := Hs2.out.bv.cell 3
 have v4 := Hs2.out.bv.cell 4
 rw [Hvc.out] at v0 v1 v2 v3 v4
 simp at v0 v1 v2 v3 v4
 have n0 := Hs2.out.bn.cell 0
 have n1 := Hs2.out.bn.cell 1
 have n2 := Hs2.out.bn.cell 2
 have n3 := Hs2.out.bn.cell 3
 have n4 := Hs2.out.bn.cell 4
 rw [Hnc.out] at n0 n1 n2 n3 n4
 simp at n0 n1 n2 n3 n4
 have x0 := Hs2.out.bx.cell 0
 have x1 := Hs2.out.bx.cell 1
 rw [Hxc.out] at x0 x1
 simp at x0 x1
 by_cases hbb : v.b < 0 ∨ (N : Int) ≤ v.b
 ·have hb4 : (decide (0 ≤ v.b) && decide (v.b ≤ (N : Int) - 1)) = false := by simp; omega
  rw [hb4]
  clear hb4
  have Her : Hid (x.eng.stepErr n.net v.ev = 5) := hide (by rw [Herr.out, if_pos hbb])
  clear hbb
  have HF := hide (step_no (er := 5) Hs2.out (Her.out) (by decide))
  have c7 := (Hs2.out.br.set 0 (.slice none 0 0)).set 1 (.slice none 0 0)
  have e0 := c7.cell 0
  have e1 := c7.cell 1
  simp at e0 e1
  have r0 := Hs2.out.br.cell 0
  have r1 := Hs2.out.br.cell 1
  have fr0 := Hs2.out.br.frozen 0
  have fr1 := Hs2.out.br.frozen 1
  simp at r0 r1
  clear c7
  go_wp2
  exact bodyPost_ret (v := .tuple #[.agg #[.slice none 0 0, .slice none 0 0], .int .i64 5]) (by simp [results, Tryz.results10, go_sem, e0, e1]) rfl HF.out
 obtain ⟨b, hb⟩ : ∃ b : Nat, v.b = b := ⟨v.b.toNat, by omega⟩
 have hbN : b < N := by omega
 have hb4 : (decide (0 ≤ v.b) && decide (v.b ≤ (N : Int) - 1)) = true := by simp; omega
 rw [hb4]
 have Her : Hid (x.eng.stepErr n.net v.ev = 0) := hide (by rw [Herr.out, if_neg hbb])
 have Hst := hide (Hstep.out b hb)
 rw [hb] at v2
 have HC := hide (HCp.out W2 Hs2.out.below)
 have Hbb := hide hb
 clear hb4 hbb hb HCp
 go_wp2_with fail
 go_at_call 35
 refine HC.out.mono ?_
 rintro r W3 ⟨⟨P0, Bv, y, hL3, rfl⟩, hb3⟩
 obtain ⟨ba, bc, hBv⟩ := own_form hL3.live.bag
 obtain ⟨P, hP⟩ : ∃ P, P = W3.heap.size := ⟨_, rfl⟩
 obtain ⟨W4, hW4⟩ : ∃ W4, W4 = W3.alloc (.cells #[.slice (some ⟨y.G, 0, none⟩) N y.gc, Bv] 31) := ⟨_, rfl⟩
 have hb34 : Below W3.heap.size W3 W4 := by rw [hW4]; exact (Below.refl _ W3).alloc (Nat.le_refl _) _
 have hb24 := hb3.trans (hb34.mono hb3.size)
 have hL4 := hL3.rebox
 rw [← hW4, ← hP] at hL4
 have HL4 := hide hL4.live
 have Hs4 := hide (Hs2.out.keep hb24)
 have Hz4 : Hid (w.heap.size + 4 ≤ W4.heap.size) := hide (by have := hb24.size; have := Hz2.out; omega)
 rw [hBv] at hW4
 rw [hBv]
 have HW4 := hide hW4
 have HP := hide hP
 have HBv := hide hBv
 clear hL3 hb3 hb34 hb24 hL4 hW4 hP HC  v0 v1 v2 v3 v4 n0 n1 n2 n3 n4 x0 x1
 go_wp2_with fail
 rw [← HW4.out, ← HP.out]
 have hset := (HL4.out.below (W' := W4.drew) ⟨rfl, rfl, rfl, Nat.le_refl _, fun _ _ => rfl⟩).setTold hkN hbN false (x.eng.D k b) none 0 0 0 (fun h0 => by cases h0)
 simp only [Bool.false_eq_true, if_false] at hset
 have hset2 := hset.congr (e' := x.eng.untell k b) (fun _ _ _ _ => rfl) (fun _ _ _ _ => rfl) (fun r q c _ _ _ ht => by
  show (if r = k ∧ q = b then x.eng.D k b else x.eng.D r q) c = x.eng.D r q c
  split
  ·next hh => rw [hh.1, hh.2]
  ·rfl) rfl
 obtain ⟨y5, hy5, hyG, hyc⟩ : ∃ y5 : Lay, Live W2.heap.size P N (x.eng.untell k b) Bv y5 (W4.drew.setCell ⟨y.Tb k, b, none⟩ (.slice none 0 0)) ∧ y5.G = y.G ∧ y5.gc = y.gc := ⟨_, hset2, rfl, rfl⟩
 obtain ⟨W5, hW5⟩ : ∃ W5, W5 = W4.drew.setCell ⟨y.Tb k, b, none⟩ (.slice none 0 0) := ⟨_, rfl⟩
 have hlt := HL4.out.lt k hkN
 have Hs5 : Hid (SB w n x v W5) := hide (by rw [hW5]; exact SB.set (W := W4.drew) (Hs4.out.keep ⟨rfl, rfl, rfl, Nat.le_refl _, fun _ _ => rfl⟩) (by have := Hz2.out; omega) _ _)
 have hL5 : Live W2.heap.size P N (x.eng.untell k b) Bv y5 W5 := by rw [hW5]; exact hy5
 have hz5 : W5.heap.size = W4.heap.size := by rw [hW5]; exact (show (W4.setCell ⟨y.Tb k, b, none⟩ (.slice none 0 0)).heap.size = _ by simp)
 obtain ⟨m5, hm1, hm2, hm3, hm4, _⟩ := hL5.right HR.out.check HN.out (HR.out.fit.untell k b)
 have HC5 := hide (HLk.out m5 W5 Hs5.out.below hm2 hm4)
 have hmv : #[Value.slice m5.rs.ga m5.rs.gn m5.rs.gc, .slice m5.bag.ba m5.bag.bn m5.bag.bc] = #[.slice (some ⟨y.G, 0, none⟩) N y.gc, Bv] := by rw [← hyG, ← hyc, ← hm1]; rfl
 rw [hmv, hm3, HBv.out] at HC5
 have p0 := hL5.head.cell 0
 have p1 := hL5.head.cell 1
 rw [hyG, hyc, HBv.out] at p0 p1
 simp at p0 p1
 have q0 := HL4.out.head.cell 0
 have q1 := HL4.out.rtrs.cell (k * 2 + 1)
 rw [HL4.out.r1 k hkN] at q1
 have q2 := (HL4.out.tolds k hkN).cell b
 rw [HL4.out.t0 k hkN b hbN] at q2
 have fq2 := (HL4.out.tolds k hkN).frozen b
 simp at q0
 have Q0 := hide q0
 have Q1 := hide q1
 have Q2 := hide q2
 have Fq2 := hide fq2
 have HW5 := hide hW5
 have Hz5 : Hid (w.heap.size + 3 < W5.heap.size) := hide (by rw [hz5]; have := Hz4.out; omega)
 have v0 := Hs4.out.bv.cell 0
 have v1 := Hs4.out.bv.cell 1
 have v2 := Hs4.out.bv.cell 2
 have v3 := Hs4.out.bv.cell 3
 have v4 := Hs4.out.bv.cell 4
 rw [Hvc.out] at v0 v1 v2 v3 v4
 simp at v0 v1 v2 v3 v4
 have V1 := hide v1
 have V2 := hide v2
 rw [Hbb.out] at V2
 have v0 := Hs5.out.bv.cell 0
 have v1 := Hs5.out.bv.cell 1
 have v2 := Hs5.out.bv.cell 2
 have v3 := Hs5.out.bv.cell 3
 have v4 := Hs5.out.bv.cell 4
 rw [Hvc.out] at v0 v1 v2 v3 v4
 simp at v0 v1 v2 v3 v4
 have n0 := Hs5.out.bn.cell 0
 have n1 := Hs5.out.bn.cell 1
 have n2 := Hs5.out.bn.cell 2
 have n3 := Hs5.out.bn.cell 3
 have n4 := Hs5.out.bn.cell 4
 rw [Hnc.out] at n0 n1 n2 n3 n4
 simp at n0 n1 n2 n3 n4
 have hki : (k : Int) < (N : Int) := by omega
 have hbi : (b : Int) < (N : Int) := by omega
 have HkN := hide hkN
 clear hset hset2 hy5 hL5 hm1 hm2 hm3 hm4 hmv q0 q1 q2 fq2 hlt hz5 hyG hyc hW5 hBv
 refine wp_region_last 10 _ (fun W => W = W4.drew) (valsE [.pointer (some ⟨P, 0, none⟩), .slice (some ⟨y.G, 0, none⟩) N y.gc, .pointer (some ⟨w.heap.size + 1 + 1, 1, none⟩), .int .i64 (k : Int), .pointer (some ⟨y.G, k * 2, none⟩), .pointer (some ⟨y.G, k * 2 + 1, none⟩), .slice (some ⟨y.Tb k, 0, none⟩) N (y.Tc k), .pointer (some ⟨w.heap.size + 1 + 1, 2, none⟩), .int .i64 (b : Int), .pointer (some ⟨y.Tb k, b, none⟩)]) (fun _ W => W = W5) (fun _ _ _ => True) (by kernel_rfl) (by kernel_rfl) (by kernel_rfl) (by kernel_rfl) (by kernel_rfl) rfl rfl ⟨?_, ?_, ?_, ?_, ?_, ?_, ?_, ?_, ?_, ?_, trivial⟩ ?_ trivial ?_
 rotate_right
 ·intro t W hG _
  simp only [fill, Act.put, List.setIfInBounds_toArray, List.set_cons_zero, List.set_cons_succ]
  subst hG
  go_wp2_with fail
  go_at_call 31
  refine HC5.out.mono ?_
  rintro r W6 ⟨⟨P6, Bv6, y6, hL6, rfl⟩, hb6⟩
  have Hs6 := hide (Hs5.out.keep hb6)
  obtain ⟨ba6, bc6, hBv6⟩ := own_form hL6.live.bag
  have HF := hide (step_fin hL6.live Hs6.out (by have := Hz5.out; omega) HR.out.check HN.out ((HR.out.fit.untell k b).look (Net.good_of_check HR.out.check) (by have := HNN.out; have := HkN.out; omega)) Hst.out.symm Her.out)
  have c7 := (Hs6.out.br.set 0 (.slice (some ⟨y6.G, 0, none⟩) N y6.gc)).set 1 Bv6
  have e0 := c7.cell 0
  have e1 := c7.cell 1
  simp at e0 e1
  have r0 := Hs6.out.br.cell 0
  have r1 := Hs6.out.br.cell 1
  have fr0 := Hs6.out.br.frozen 0
  have fr1 := Hs6.out.br.frozen 1
  simp at r0 r1
  rw [hBv6] at HF e0 e1
  rw [hBv6]
  generalize (Eng.look n.net (x.eng.untell k b) k).bag.length = bl at *
  clear c7 hBv6 hL6 hb6 HC5 v0 v1 v2 v3 v4 n0 n1 n2 n3 n4 p0 p1
  go_wp2
  exact bodyPost_ret (v := .tuple #[.agg #[.slice (some ⟨y6.G, 0, none⟩) N y6.gc, .slice ba6 bl bc6], .int .i64 0]) (by simp [results, Tryz.results10, go_sem, e0, e1]) rfl HF.out
 rotate_right
 ·intro t W hG hE _ K hK
  have e9 := valsE_get (hE 9 (by omega)) rfl
  subst hG
  simp only [fill, Act.put, List.setIfInBounds_toArray, List.set_cons_zero, List.set_cons_succ, e9] at hK ⊢
  rw [if_pos (by rfl)]
  have cq : W4.drew.cell? ⟨y.Tb k, b, none⟩ = some (.slice (y.ta k b) (if x.eng.told k b = true then N else 0) (y.tc k b)) := Q2.out
  have fq : W4.drew.frozen? ⟨y.Tb k, b, none⟩ = false := Fq2.out
  go_simp
  exact hK undef _ HW5.out.symm
 all_goals intro t W hG hp ht K hK
 all_goals clear ht
 all_goals subst hG
 all_goals simp only [fill, Act.put, List.setIfInBounds_toArray, List.set_cons_zero, List.set_cons_succ] at hK ⊢
 ·rw [if_pos (by rfl)]
  go_simp
  exact hK _ _ rfl rfl (fun _ _ _ h => h)
 ·have e0 := valsE_get (hp 0 (by decide)) rfl
  have cq : W4.drew.cell? ⟨P, 0, none⟩ = some (.slice (some ⟨y.G, 0, none⟩) N y.gc) := Q0.out
  simp only [e0] at hK ⊢
  rw [if_pos (by rfl)]
  go_simp
  exact hK _ _ rfl rfl (fun _ _ _ h => h)
 ·rw [if_pos (by rfl)]
  go_simp
  exact hK _ _ rfl rfl (fun _ _ _ h => h)
 ·have e2 := valsE_get (hp 2 (by decide)) rfl
  have cq : W4.drew.cell? ⟨w.heap.size + 2, 1, none⟩ = some (.int .i64 (k : Int)) := V1.out
  simp only [e2] at hK ⊢
  rw [if_pos (by rfl)]
  go_simp
  exact hK _ _ rfl rfl (fun _ _ _ h => h)
 ·have e1 := valsE_get (hp 1 (by decide)) rfl
  have e3 := valsE_get (hp 3 (by decide)) rfl
  simp only [e1, e3] at hK ⊢
  rw [if_pos (by rfl)]
  go_simp
  exact hK _ _ rfl rfl (fun _ _ _ h => h)
 ·have e4 := valsE_get (hp 4 (by decide)) rfl
  simp only [e4] at hK ⊢
  rw [if_pos (by rfl)]
  go_simp
  exact hK _ _ rfl rfl (fun _ _ _ h => h)
 ·have e5 := valsE_get (hp 5 (by decide)) rfl
  have cq : W4.drew.cell? ⟨y.G, k * 2 + 1, none⟩ = some (.slice (some ⟨y.Tb k, 0, none⟩) N (y.Tc k)) := Q1.out
  simp only [e5] at hK ⊢
  rw [if_pos (by rfl)]
  go_simp
  exact hK _ _ rfl rfl (fun _ _ _ h => h)
 ·rw [if_pos (by rfl)]
  go_simp
  exact hK _ _ rfl rfl (fun _ _ _ h => h)
 ·have e7 := valsE_get (hp 7 (by decide)) rfl
  have cq : W4.drew.cell? ⟨w.heap.size + 2, 2, none⟩ = some (.int .i64 (b : Int)) := V2.out
  simp only [e7] at hK ⊢
  rw [if_pos (by rfl)]
  go_simp
  exact hK _ _ rfl rfl (fun _ _ _ h => h)
 ·have e6 := valsE_get (hp 6 (by decide)) rfl
  have e8 := valsE_get (hp 8 (by decide)) rfl
  simp only [e6, e8] at hK ⊢
  rw [if_pos (by rfl)]
  go_simp
  exact hK _ _ rfl rfl (fun _ _ _ h => h)

end Go.Proofs.YtjhkadffaephmabGreat
