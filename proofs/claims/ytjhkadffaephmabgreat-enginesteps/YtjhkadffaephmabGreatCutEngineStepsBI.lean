/-
  Our own texts, bundled: a claim holds few files.
-/
import Derived.Test.YtjhkadffaephmabGreatCutEngineStepsBC
import Derived.Test.YtjhkadffaephmabGreatCutEngineStepsBD
import Derived.Test.YtjhkadffaephmabGreatCutEngineStepsBF
import Derived.Test.YtjhkadffaephmabGreatCutEngineStepsBG
import Derived.Test.YtjhkadffaephmabGreatCutEngineStepsBH
import Derived.Test.YtjhkadffaephmabGreatCutEngineStepsAJ
/-
  engine.expire.
-/
namespace Go.Proofs.YtjhkadffaephmabGreat
set_option maxRecDepth 100000
open Go.RowKit

theorem Eng.Fit.forget {n : Net} {e : Eng} (h : e.Fit n) (i k : Nat) : Eng.Fit n { e with told := fun a b => if a = i ∧ b = k then false else e.told a b } :=
  ⟨h.R, fun a b j ha hb hj ht => by
    have ht' : (if a = i ∧ b = k then false else e.told a b) = true := ht
    split at ht'
    · cases ht'
    · exact h.D a b j ha hb hj ht', h.many, h.mail⟩

set_option maxHeartbeats 2000000 in
theorem expire_bad (n : NetM) (base P N at_ : Nat) (of_ : Int) (e : Eng) (Bv : Value) (y : Lay) (w : World) (hN : n.nodes = N) (hL : Live base P N e Bv y w) (hof : of_ < 0 ∨ (N : Int) ≤ of_) :
    Calls Tryz.prog 73 #[n.val, .pointer (some ⟨P, 0, none⟩), .int .i64 at_, .int .i64 of_] w fun r w' => r = .returned (.int .i64 5) ∧ Live base P N e Bv y w' ∧ Below base w w' := by
  have hbw : base ≤ w.heap.size := Nat.le_of_lt (Nat.lt_of_le_of_lt hL.lp hL.head.lt)
  have hB : Below w.heap.size w (w.alloc (.cells n.cells 27)) := (Below.refl _ w).alloc (Nat.le_refl _) _
  have HF := hide (And.intro (hL.below hB) (hB.mono hbw))
  have HS := hide (fun W => sbelow_any of_ N W)
  have hv : (decide (0 ≤ of_) && decide (of_ < (N : Int))) = false := by simp; omega
  rw [hv] at HS
  simp only [NetM.val, NetM.cells, Mat.val, hN] at *
  clear hL hof hv hB
  go_enter Tryz.func73, Tryz.ntmps73
  go_wp2_with fail
  go_at_call 62
  refine (HS.out _).mono ?_
  rintro r w1 ⟨rfl, rfl⟩
  go_wp2
  go_ret
  exact ⟨rfl, HF.out.1, HF.out.2⟩

set_option maxHeartbeats 4000000 in
theorem expire_ok (n : NetM) (base P N at_ k : Nat) (e : Eng) (Bv : Value) (y : Lay) (w : World) (h : n.In base w) (hck : n.net.check = 0) (hN : n.nodes = N) (hL : Live base P N e Bv y w) (hfit : e.Fit n.net) (hat : at_ < N) (hk : k < N) :
    Calls Tryz.prog 73 #[n.val, .pointer (some ⟨P, 0, none⟩), .int .i64 at_, .int .i64 k] w fun r w' => r = .returned (.int .i64 0) ∧ (∃ y', Live base P N (e.expire n.net at_ k) Bv y' w') ∧ Below base w w' := by
  have hbw : base ≤ w.heap.size := Nat.le_of_lt (Nat.lt_of_le_of_lt hL.lp hL.head.lt)
  obtain ⟨W1, hW1⟩ : ∃ W1, W1 = w.alloc (.cells n.cells 27) := ⟨_, rfl⟩
  have hB : Below w.heap.size w W1 := by rw [hW1]; exact (Below.refl _ w).alloc (Nat.le_refl _) _
  have b0 : Blk W1 w.heap.size n.cells 27 := by rw [hW1]; exact Blk.new w _ _
  have hL1 := hL.below hB
  have hTl := (hL.tolds at_ hat).lt
  have hset := hL1.setTold hat hk false (e.D at_ k) none 0 0 0 (fun h => by cases h)
  have he : ({ e with told := fun a b => if a = at_ ∧ b = k then false else e.told a b, D := fun r q => if r = at_ ∧ q = k then e.D at_ k else e.D r q } : Eng) = { e with told := fun a b => if a = at_ ∧ b = k then false else e.told a b } := by
    congr 1
    funext r q
    by_cases e1 : r = at_ ∧ q = k
    · rw [if_pos e1, e1.1, e1.2]
    · rw [if_neg e1]
  rw [he] at hset
  simp only [Bool.false_eq_true, if_false] at hset
  have hBs : Below base w (W1.setCell ⟨y.Tb at_, k, none⟩ (.slice none 0 0)) := (hB.mono hbw).setCell (p := ⟨y.Tb at_, k, none⟩) (hL.lt at_ hat) _
  have HLk := hide (engLook_any n base P N at_ _ Bv _ _ (h.below hBs (Nat.le_refl _)) hck hN hset (hfit.forget at_ k) hat)
  have bs := b0.other (C := y.Tb at_) (by omega) k (.slice none 0 0)
  have x0 := bs.cell 0
  have x1 := bs.cell 1
  have x2 := bs.cell 2
  have x3 := bs.cell 3
  have x4 := bs.cell 4
  have h0 := hL1.head.cell 0
  have h1 := hL1.rtrs.cell (at_ * 2 + 1)
  rw [hL.r1 at_ hat] at h1
  have h2 := (hL1.tolds at_ hat).cell k
  rw [hL.t0 at_ hat k hk] at h2
  have hf := (hL1.tolds at_ hat).frozen k
  have y3 := b0.cell 3
  have HS := hide (fun W => sbelow_any (k : Int) N W)
  have hv : (decide (0 ≤ (k : Int)) && decide ((k : Int) < (N : Int))) = true := by simp; omega
  rw [hv] at HS
  have hai : (at_ : Int) < (N : Int) := by omega
  have hki : (k : Int) < (N : Int) := by omega
  have HBs := hide hBs
  rw [hW1] at HLk HBs x0 x1 x2 x3 x4 h0 h1 h2 hf y3
  simp only [NetM.val, NetM.cells, Mat.val, hN] at *
  simp at x0 x1 x2 x3 x4 h0 y3
  clear h hck hL hfit hB b0 hL1 hset he hBs bs hv hW1 hTl hbw
  go_enter Tryz.func73, Tryz.ntmps73
  go_wp2_with fail
  go_at_call 62
  refine (HS.out _).mono ?_
  rintro r w1 ⟨rfl, rfl⟩
  go_wp2_with fail
  go_at_call 71
  refine HLk.out.mono ?_
  rintro r w2 ⟨rfl, hl2, hb2⟩
  have HF := hide (And.intro hl2 (HBs.out.trans hb2))
  clear hl2 hb2 HBs HLk
  go_wp2
  go_ret
  exact ⟨rfl, HF.out.1, HF.out.2⟩

end Go.Proofs.YtjhkadffaephmabGreat

/-
  An event to an engine: each kind as one answer.
-/
namespace Go.Proofs.YtjhkadffaephmabGreat
set_option maxRecDepth 100000
open Go.RowKit

/-- What an event answers and leaves. -/
def EvAns (base P N : Nat) (err : Int) (e' : Eng) (w : World) (r : Ending) (w' : World) : Prop :=
  r = .returned (.int .i64 err) ∧ (∃ Bv' y', Live base P N e' Bv' y' w') ∧ Below base w w'

/-- An event where it lies. -/
structure EvM where
  kind : Int
  loc : Int
  b : Int
  c : Int
  ra : Option Addr
  rl : Nat
  rc : Nat
  rb : Nat
  ro : Nat
  R : Nat → Int
def EvM.cells (v : EvM) : Array Value := #[.int .i64 v.kind, .int .i64 v.loc, .int .i64 v.b, .int .i64 v.c, .slice v.ra v.rl v.rc]
def EvM.val (v : EvM) : Value := .agg v.cells
def EvM.ev (v : EvM) : Ev := ⟨v.kind, v.loc, v.b, v.c, v.rl, v.R⟩
structure EvM.In (v : EvM) (N : Nat) (w : World) : Prop where
  ints : Ints v.ra v.rl v.rb v.ro v.R w
  lt : 0 < v.rl → v.rb < N
  len : v.rl ≤ maxLen
theorem EvM.In.below {v : EvM} {N k : Nat} {w w' : World} (h : v.In N w) (hb : Below k w w') (hk : N ≤ k) : v.In N w' := ⟨h.ints.below hb (fun h0 => Nat.lt_of_lt_of_le (h.lt h0) hk), h.lt, h.len⟩
theorem EvM.In.mono {v : EvM} {N k : Nat} {w : World} (h : v.In N w) (hk : N ≤ k) : v.In k w := ⟨h.ints, fun h0 => Nat.lt_of_lt_of_le (h.lt h0) hk, h.len⟩

section
variable {n : NetM} {base P N : Nat} {e : Eng} {Bv : Value} {y : Lay} {w : World}

theorem nodes_six (hck : n.net.check = 0) (hN : n.nodes = N) : 0 < N ∧ N ≤ 6 ∧ n.net.N = N ∧ n.net.nodes = (N : Int) := by
  have g := Net.good_of_check hck
  have h1 := g.lo
  have h2 := g.hi
  have h3 : n.net.nodes = n.nodes := rfl
  refine ⟨by omega, by omega, by show n.nodes.toNat = N; omega, by omega⟩

theorem tick_any (i : Nat) (h : n.In base w) (hck : n.net.check = 0) (hN : n.nodes = N) (hL : Live base P N e Bv y w) (hfit : e.Fit n.net) (hi : i < N) :
    Calls Tryz.prog 41 #[n.val, .pointer (some ⟨P, 0, none⟩), .int .i64 i] w fun r w' => EvAns base P N (if 120 < e.bag.length + (n.net.hearers i).length then 2 else 0) (if 120 < e.bag.length + (n.net.hearers i).length then e else e.tick n.net i) w r w' := by
  by_cases hb : 120 < e.bag.length + (n.net.hearers i).length
  · simp only [if_pos hb]
    exact (tick_many n base P N i e Bv y w h hck hN hL hfit.many hb).mono (fun r w' ⟨h1, h2, h3⟩ => ⟨h1, ⟨Bv, y, h2⟩, h3⟩)
  · simp only [if_neg hb]
    exact (tick_ok n base P N i e Bv y w h hck hN hL hfit hi (by omega)).mono (fun r w' h => h)

theorem expire_any (i : Nat) (b : Int) (h : n.In base w) (hck : n.net.check = 0) (hN : n.nodes = N) (hL : Live base P N e Bv y w) (hfit : e.Fit n.net) (hi : i < N) :
    Calls Tryz.prog 73 #[n.val, .pointer (some ⟨P, 0, none⟩), .int .i64 i, .int .i64 b] w fun r w' => EvAns base P N (if b < 0 ∨ n.net.nodes ≤ b then 5 else 0) (if b < 0 ∨ n.net.nodes ≤ b then e else e.expire n.net i b.toNat) w r w' := by
  obtain ⟨h0, h6, hNN, hnn⟩ := nodes_six hck hN
  by_cases hb : b < 0 ∨ n.net.nodes ≤ b
  · simp only [if_pos hb]
    exact (expire_bad n base P N i b e Bv y w hN hL (by omega)).mono (fun r w' ⟨h1, h2, h3⟩ => ⟨h1, ⟨Bv, y, h2⟩, h3⟩)
  · simp only [if_neg hb]
    obtain ⟨k, rfl⟩ : ∃ k : Nat, b = k := ⟨b.toNat, by omega⟩
    exact (expire_ok n base P N i k e Bv y w h hck hN hL hfit hi (by omega)).mono (fun r w' ⟨h1, ⟨y', h2⟩, h3⟩ => ⟨h1, ⟨Bv, y', h2⟩, h3⟩)

theorem restart_any (i : Nat) (v : EvM) (hv : v.In w.heap.size w) (hck : n.net.check = 0) (hN : n.nodes = N) (hL : Live base P N e Bv y w) (hi : i < N) :
    Calls Tryz.prog 74 #[n.val, .pointer (some ⟨P, 0, none⟩), .int .i64 i, .slice v.ra v.rl v.rc] w fun r w' => EvAns base P N (n.net.row v.rl v.R) (if n.net.row v.rl v.R = 0 then e.restart i v.R else e) w r w' := by
  obtain ⟨h0, h6, hNN, hnn⟩ := nodes_six hck hN
  by_cases hl : v.rl = N
  · have hints := hv.ints
    have hlt := hv.lt
    rw [hl] at hints hlt ⊢
    cases hr : rowIn N v.R n.a.size with
    | true =>
      have hz : n.net.row N v.R = 0 := Net.row_zero.2 ⟨hnn.symm, rowIn_iff.1 hr⟩
      rw [hz, if_pos rfl]
      exact (restart_ok n base P N i v.ra v.rc v.rb v.ro v.R e Bv y w hN h6 h0 hL hints (hlt h0) hr hi).mono (fun r w' ⟨h1, ⟨y', h2⟩, h3⟩ => ⟨h1, ⟨Bv, y', h2⟩, h3⟩)
    | false =>
      have hz : n.net.row N v.R = 5 := by
        unfold Net.row
        rw [if_neg (by omega), if_pos]
        exact hr
      rw [hz, if_neg (by decide)]
      exact (restart_none n base P N i v.ra v.rc v.rb v.ro v.R e Bv y w hN h6 hL hints hlt hr).mono (fun r w' ⟨h1, h2, h3⟩ => ⟨h1, ⟨Bv, y, h2⟩, h3⟩)
  · have hz : n.net.row v.rl v.R = 1 := by
      unfold Net.row
      rw [if_pos (by omega)]
    rw [hz, if_neg (by decide)]
    exact (restart_form n base P N i v.ra v.rl v.rc e Bv y w hN hL hl h6 hv.len).mono (fun r w' ⟨h1, h2, h3⟩ => ⟨h1, ⟨Bv, y, h2⟩, h3⟩)

theorem twice_all (i : Nat) (hL : Live base P N e Bv y w) (hi : i < e.bag.length) (hm : e.bag.length ≤ 120) :
    Calls Tryz.prog 75 #[.pointer (some ⟨P, 0, none⟩), .int .i64 i] w fun r w' => EvAns base P N (if 120 ≤ e.bag.length then 2 else 0) (if 120 ≤ e.bag.length then e else e.twice i) w r w' := by
  by_cases hb : 120 ≤ e.bag.length
  · simp only [if_pos hb]
    exact (twice_many base P N i e Bv y w hL hb (by omega)).mono (fun r w' ⟨h1, h2, h3⟩ => ⟨h1, ⟨Bv, y, h2⟩, h3⟩)
  · simp only [if_neg hb]
    exact (twice_ok base P N i e Bv y w hL hi (by omega)).mono (fun r w' ⟨h1, ⟨B', h2⟩, h3⟩ => ⟨h1, ⟨B', y, h2⟩, h3⟩)

theorem spoil_any (i : Nat) (b c : Int) (hL : Live base P N e Bv y w) (hi : i < e.bag.length) (hm : e.bag.length ≤ 120) (hlen : (e.bag.getD i noMail).b.length ≤ 60) :
    Calls Tryz.prog 77 #[.pointer (some ⟨P, 0, none⟩), .int .i64 i, .int .i64 b, .int .i64 c] w fun r w' => EvAns base P N (if (b < 0 ∨ ((e.bag.getD i noMail).b.length : Int) ≤ b) ∨ (c < 1 ∨ 255 < c) then 3 else 0) (if (b < 0 ∨ ((e.bag.getD i noMail).b.length : Int) ≤ b) ∨ (c < 1 ∨ 255 < c) then e else e.spoil i b.toNat (u8 c)) w r w' := by
  by_cases hb : (b < 0 ∨ ((e.bag.getD i noMail).b.length : Int) ≤ b) ∨ (c < 1 ∨ 255 < c)
  · simp only [if_pos hb]
    exact (spoil_bad base P N i b c e Bv y w hL hi hlen (by omega) hb).mono (fun r w' ⟨h1, h2, h3⟩ => ⟨h1, ⟨Bv, y, h2⟩, h3⟩)
  · simp only [if_neg hb]
    obtain ⟨k, rfl⟩ : ∃ k : Nat, b = k := ⟨b.toNat, by omega⟩
    exact (spoil_ok base P N i k c e Bv y w hL hi hlen (by omega) (by omega) (by omega) (by omega)).mono (fun r w' ⟨h1, h2, h3⟩ => ⟨h1, ⟨Bv, y, h2⟩, h3⟩)

end

end Go.Proofs.YtjhkadffaephmabGreat

/-
  engine.atNode, engine.atMail, engine.happen.
-/
namespace Go.Proofs.YtjhkadffaephmabGreat
set_option maxRecDepth 100000
open Go.RowKit

/-- What stands while an event is looked at. -/
structure HapG (base P N : Nat) (n : NetM) (v : EvM) (b3 b5 : Nat) (e : Eng) (Bv : Value) (y : Lay) (w1 W : World) : Prop where
  live : Live base P N e Bv y W
  net : Blk W b3 n.cells 27
  ev : Blk W b5 v.cells 34
  below : Below w1.heap.size w1 W
theorem HapG.keep {base P N : Nat} {n : NetM} {v : EvM} {b3 b5 : Nat} {e : Eng} {Bv : Value} {y : Lay} {w1 W W' : World} (h : HapG base P N n v b3 b5 e Bv y w1 W) (hb : Below W.heap.size W W') : HapG base P N n v b3 b5 e Bv y w1 W' := ⟨h.live.below hb, h.net.below hb h.net.lt, h.ev.below hb h.ev.lt, h.below.trans (hb.mono h.below.size)⟩

theorem EvAns.from {base P N : Nat} {err : Int} {e' : Eng} {w W : World} {r : Ending} {w' : World} (hb : Below base w W) (h : EvAns base P N err e' W r w') : EvAns base P N err e' w r w' := ⟨h.1, h.2.1, hb.trans h.2.2⟩

set_option maxHeartbeats 400000 in
theorem atNode_any (n : NetM) (v : EvM) (base P N : Nat) (e : Eng) (Bv : Value) (y : Lay) (w : World) (h : n.In base w) (hck : n.net.check = 0) (hN : n.nodes = N) (hL : Live base P N e Bv y w) (hfit : e.Fit n.net) (hv : v.In base w) (hk : v.kind = 1 ∨ v.kind = 6 ∨ v.kind = 7) :
    Calls Tryz.prog 45 #[n.val, .pointer (some ⟨P, 0, none⟩), v.val] w fun r w' => EvAns base P N (e.stepErr n.net v.ev) (if e.stepErr n.net v.ev = 0 then e.step n.net v.ev else e) w r w' := by
  obtain ⟨hN0, hN6, hNN, hnn⟩ := nodes_six hck hN
  obtain ⟨kind, loc, b, c, ra, rl, rc, rb, ro, f⟩ := v
  have hbw : base ≤ w.heap.size := Nat.le_of_lt (Nat.lt_of_le_of_lt hL.lp hL.head.lt)
  have hcells : n.cells = #[.int .i64 n.a.size, .slice n.a.B.ga n.a.B.t.len n.a.B.cap, .slice n.a.E.ga n.a.E.t.len n.a.E.cap, .int .i64 N, .slice n.la n.ln n.lc] := by simp only [NetM.cells, Mat.val, hN]
  obtain ⟨W1, hW1⟩ : ∃ W1, W1 = (w.alloc (.cells n.cells 27)).alloc (.cells #[.int .i64 kind, .int .i64 loc, .int .i64 b, .int .i64 c, .slice ra rl rc] 34) := ⟨_, rfl⟩
  have hB1 : Below w.heap.size w W1 := by rw [hW1]; exact ((Below.refl _ w).alloc (Nat.le_refl _) _).alloc (by simp) _
  have hBb := hB1.mono hbw
  have hL1 := hL.below hB1
  have h1 := h.below hBb (Nat.le_refl _)
  have hv1 := (hv.below hBb (Nat.le_refl _)).mono (Nat.le_trans hbw hB1.size)
  have b3 : Blk W1 w.heap.size n.cells 27 := by rw [hW1]; exact (Blk.new w _ _).alloc _
  have b5 : Blk W1 (w.heap.size + 1) #[.int .i64 kind, .int .i64 loc, .int .i64 b, .int .i64 c, .slice ra rl rc] 34 := by rw [hW1]; exact Blk.new' (by simp)
  have HX : Hid (∀ W, Below W1.heap.size W1 W → (∃ Bv' y', Live base P N e Bv' y' W) ∧ Below base w W) := hide (fun W hb => ⟨⟨Bv, y, hL1.below hb⟩, hBb.trans (hb.mono (Nat.le_trans hbw hB1.size))⟩)
  have HL1 := hide hL1
  have H1 := hide h1
  have Hv1 := hide hv1
  have HBb := hide hBb
  have Hfit := hide hfit
  have HS := hide (fun W => sbelow_any loc N W)
  have x0 := b3.cell 0
  have x1 := b3.cell 1
  have x2 := b3.cell 2
  have x3 := b3.cell 3
  have x4 := b3.cell 4
  have v0 := b5.cell 0
  have v1 := b5.cell 1
  have v2 := b5.cell 2
  have v4 := b5.cell 4
  simp only [hcells] at x0 x1 x2 x3 x4
  simp at x0 x1 x2 x3 x4 v0 v1 v2 v4
  rw [hcells] at hW1
  have HW1 := hide hW1
  have HN := hide hN
  have Hcells := hide hcells
  rw [NetM.val, EvM.val, EvM.cells, hcells]
  have hk' : kind = 1 ∨ kind = 6 ∨ kind = 7 := hk
  clear h hL hv hk hbw hcells hB1 hBb hL1 h1 hv1 b3 b5 hW1 hfit hN
  by_cases hl : loc < 0 ∨ (N : Int) ≤ loc
  · have hvv : (decide (0 ≤ loc) && decide (loc < (N : Int))) = false := by simp; omega
    rw [hvv] at HS
    have hst : e.stepErr n.net (EvM.ev ⟨kind, loc, b, c, ra, rl, rc, rb, ro, f⟩) = 5 := by
      unfold Eng.stepErr EvM.ev
      simp only []
      rw [if_neg (by omega), if_neg (by omega), if_pos (by omega)]
    rw [hst, if_neg (by decide)]
    have HF := hide (HX.out W1 (Below.refl _ _))
    rw [HW1.out] at HF
    clear hst hvv HX hl hk' x0 x1 x2 x3 x4 v0 v1 v2 v4 hnn hNN
    go_enter Tryz.func45, Tryz.ntmps45
    go_wp2_with fail
    go_at_call 62
    refine (HS.out _).mono ?_
    rintro r w2 ⟨rfl, rfl⟩
    go_wp2
    go_ret
    exact ⟨rfl, HF.out⟩
  obtain ⟨i, rfl⟩ : ∃ i : Nat, loc = i := ⟨loc.toNat, by omega⟩
  have hi : i < N := by omega
  have hvv : (decide (0 ≤ (i : Int)) && decide ((i : Int) < (N : Int))) = true := by simp; omega
  rw [hvv] at HS
  rcases hk' with rfl | rfl | rfl
  · have hst : e.stepErr n.net (EvM.ev ⟨1, (i : Int), b, c, ra, rl, rc, rb, ro, f⟩) = if 120 < e.bag.length + (n.net.hearers i).length then 2 else 0 := by
      unfold Eng.stepErr EvM.ev
      simp only []
      rw [if_neg (by omega), if_neg (by omega), if_neg (by omega)]
      rfl
    have hsp : e.step n.net (EvM.ev ⟨1, (i : Int), b, c, ra, rl, rc, rb, ro, f⟩) = e.tick n.net i := by
      unfold Eng.step EvM.ev
      rfl
    have HC := hide (tick_any i H1.out hck HN.out HL1.out Hfit.out hi)
    have he : (if ((if 120 < e.bag.length + (n.net.hearers i).length then 2 else 0 : Int)) = 0 then e.tick n.net i else e) = (if 120 < e.bag.length + (n.net.hearers i).length then e else e.tick n.net i) := by
      by_cases hq : 120 < e.bag.length + (n.net.hearers i).length
      · rw [if_pos hq, if_pos hq]; rfl
      · rw [if_neg hq, if_neg hq]; rfl
    rw [hst, hsp, he]
    clear he
    generalize (if 120 < e.bag.length + (n.net.hearers i).length then e else e.tick n.net i) = e2 at HC ⊢
    generalize (if 120 < e.bag.length + (n.net.hearers i).length then (2 : Int) else 0) = er at HC ⊢
    rw [NetM.val, Hcells.out] at HC
    generalize hans : EvAns base P N = ans at HC ⊢
    have HA : Hid (∀ err e' r w', ans err e' W1 r w' → ans err e' w r w' ∧ r = .returned (.int .i64 err)) := hide (by rw [← hans]; intro err e' r w' hh; exact ⟨hh.from HBb.out, hh.1⟩)
    clear hst hsp HX hvv hl hans hnn hNN HL1 H1 Hv1 HBb Hfit
    rw [HW1.out] at HC HA
    clear x0 x1 x2 x3 x4 v0 v1 v2 v4
    go_enter Tryz.func45, Tryz.ntmps45
    go_wp2_with fail
    go_at_call 62
    refine (HS.out _).mono ?_
    rintro r w2 ⟨rfl, rfl⟩
    go_wp2_with fail
    go_at_call 41
    refine HC.out.mono ?_
    intro r w3 hh
    obtain ⟨h2, rfl⟩ := HA.out _ _ _ _ hh
    have H2 := hide h2
    clear hh h2 HC HA
    go_wp2
    first
    | exact H2.out
    | (go_ret; exact H2.out)
  · have hst : e.stepErr n.net (EvM.ev ⟨6, (i : Int), b, c, ra, rl, rc, rb, ro, f⟩) = if b < 0 ∨ n.net.nodes ≤ b then 5 else 0 := by
      unfold Eng.stepErr EvM.ev
      simp only []
      rw [if_neg (by omega), if_neg (by omega), if_neg (by omega)]
      rfl
    have hsp : e.step n.net (EvM.ev ⟨6, (i : Int), b, c, ra, rl, rc, rb, ro, f⟩) = e.expire n.net i b.toNat := by
      unfold Eng.step EvM.ev
      rfl
    have HC := hide (expire_any i b H1.out hck HN.out HL1.out Hfit.out hi)
    have he : (if ((if b < 0 ∨ n.net.nodes ≤ b then 5 else 0 : Int)) = 0 then e.expire n.net i b.toNat else e) = (if b < 0 ∨ n.net.nodes ≤ b then e else e.expire n.net i b.toNat) := by
      by_cases hq : b < 0 ∨ n.net.nodes ≤ b
      · rw [if_pos hq, if_pos hq]; rfl
      · rw [if_neg hq, if_neg hq]; rfl
    rw [hst, hsp, he]
    clear he
    generalize (if b < 0 ∨ n.net.nodes ≤ b then e else e.expire n.net i b.toNat) = e2 at HC ⊢
    generalize (if b < 0 ∨ n.net.nodes ≤ b then (5 : Int) else 0) = er at HC ⊢
    rw [NetM.val, Hcells.out] at HC
    generalize hans : EvAns base P N = ans at HC ⊢
    have HA : Hid (∀ err e' r w', ans err e' W1 r w' → ans err e' w r w' ∧ r = .returned (.int .i64 err)) := hide (by rw [← hans]; intro err e' r w' hh; exact ⟨hh.from HBb.out, hh.1⟩)
    clear hst hsp HX hvv hl hans hnn hNN HL1 H1 Hv1 HBb Hfit
    rw [HW1.out] at HC HA
    clear x0 x1 x2 x3 x4 v0 v1 v2 v4
    go_enter Tryz.func45, Tryz.ntmps45
    go_wp2_with fail
    go_at_call 62
    refine (HS.out _).mono ?_
    rintro r w2 ⟨rfl, rfl⟩
    go_wp2_with fail
    go_at_call 73
    refine HC.out.mono ?_
    intro r w3 hh
    obtain ⟨h2, rfl⟩ := HA.out _ _ _ _ hh
    have H2 := hide h2
    clear hh h2 HC HA
    go_wp2
    first
    | exact H2.out
    | (go_ret; exact H2.out)
  · have hst : e.stepErr n.net (EvM.ev ⟨7, (i : Int), b, c, ra, rl, rc, rb, ro, f⟩) = n.net.row rl f := by
      unfold Eng.stepErr EvM.ev
      simp only []
      rw [if_neg (by omega), if_neg (by omega), if_neg (by omega)]
      rfl
    have hsp : e.step n.net (EvM.ev ⟨7, (i : Int), b, c, ra, rl, rc, rb, ro, f⟩) = e.restart i f := by
      unfold Eng.step EvM.ev
      rfl
    have HC := hide (restart_any i ⟨7, i, b, c, ra, rl, rc, rb, ro, f⟩ Hv1.out hck HN.out HL1.out hi)
    rw [hst, hsp]
    have HC9 := HC
    clear HC
    have HC : Hid (Calls Tryz.prog 74 #[n.val, .pointer (some ⟨P, 0, none⟩), .int .i64 i, .slice ra rl rc] W1 fun r w' => EvAns base P N (n.net.row rl f) (if n.net.row rl f = 0 then e.restart i f else e) W1 r w') := HC9
    clear HC9
    generalize (if n.net.row rl f = 0 then e.restart i f else e) = e2 at HC ⊢
    generalize n.net.row rl f = er at HC ⊢
    rw [NetM.val, Hcells.out] at HC
    generalize hans : EvAns base P N = ans at HC ⊢
    have HA : Hid (∀ err e' r w', ans err e' W1 r w' → ans err e' w r w' ∧ r = .returned (.int .i64 err)) := hide (by rw [← hans]; intro err e' r w' hh; exact ⟨hh.from HBb.out, hh.1⟩)
    clear hst hsp HX hvv hl hans hnn hNN HL1 H1 Hv1 HBb Hfit
    rw [HW1.out] at HC HA
    clear x0 x1 x2 x3 x4 v0 v1 v2 v4
    go_enter Tryz.func45, Tryz.ntmps45
    go_wp2_with fail
    go_at_call 62
    refine (HS.out _).mono ?_
    rintro r w2 ⟨rfl, rfl⟩
    go_wp2_with fail
    go_at_call 74
    refine HC.out.mono ?_
    intro r w3 hh
    obtain ⟨h2, rfl⟩ := HA.out _ _ _ _ hh
    have H2 := hide h2
    clear hh h2 HC HA
    go_wp2
    first
    | exact H2.out
    | (go_ret; exact H2.out)

end Go.Proofs.YtjhkadffaephmabGreat

/-
  engine.atMail.
-/
namespace Go.Proofs.YtjhkadffaephmabGreat
set_option maxRecDepth 100000
open Go.RowKit

set_option maxHeartbeats 400000 in
theorem atMail_any (n : NetM) (v : EvM) (base P N : Nat) (e : Eng) (Bv : Value) (y : Lay) (w : World) (h : n.In base w) (hck : n.net.check = 0) (hN : n.nodes = N) (hL : Live base P N e Bv y w) (hfit : e.Fit n.net) (_hv : v.In base w) (hk : v.kind = 2 ∨ v.kind = 3 ∨ v.kind = 4 ∨ v.kind = 5) :
    Calls Tryz.prog 46 #[n.val, .pointer (some ⟨P, 0, none⟩), v.val] w fun r w' => EvAns base P N (e.stepErr n.net v.ev) (if e.stepErr n.net v.ev = 0 then e.step n.net v.ev else e) w r w' := by
  obtain ⟨hN0, hN6, hNN, hnn⟩ := nodes_six hck hN
  obtain ⟨kind, loc, b, c, ra, rl, rc, rb, ro, f⟩ := v
  have hbw : base ≤ w.heap.size := Nat.le_of_lt (Nat.lt_of_le_of_lt hL.lp hL.head.lt)
  have hcells : n.cells = #[.int .i64 n.a.size, .slice n.a.B.ga n.a.B.t.len n.a.B.cap, .slice n.a.E.ga n.a.E.t.len n.a.E.cap, .int .i64 N, .slice n.la n.ln n.lc] := by simp only [NetM.cells, Mat.val, hN]
  obtain ⟨W1, hW1⟩ : ∃ W1, W1 = (w.alloc (.cells n.cells 27)).alloc (.cells #[.int .i64 kind, .int .i64 loc, .int .i64 b, .int .i64 c, .slice ra rl rc] 34) := ⟨_, rfl⟩
  have hB1 : Below w.heap.size w W1 := by rw [hW1]; exact ((Below.refl _ w).alloc (Nat.le_refl _) _).alloc (by simp) _
  have hBb := hB1.mono hbw
  have hL1 := hL.below hB1
  have h1 := h.below hBb (Nat.le_refl _)
  have b3 : Blk W1 w.heap.size n.cells 27 := by rw [hW1]; exact (Blk.new w _ _).alloc _
  have b5 : Blk W1 (w.heap.size + 1) #[.int .i64 kind, .int .i64 loc, .int .i64 b, .int .i64 c, .slice ra rl rc] 34 := by rw [hW1]; exact Blk.new' (by simp)
  obtain ⟨ba, bc, hbl⟩ : ∃ ba bc, Bv = .slice ba e.bag.length bc := by
    rcases Go.Joins.ownsRow_forms hL.bag with ⟨e0, e1⟩ | ⟨g, cap, e1⟩
    · exact ⟨none, 0, by rw [e0, e1]⟩
    · exact ⟨_, _, e1⟩
  have HG1 : Hid (HapG base P N n ⟨kind, loc, b, c, ra, rl, rc, rb, ro, f⟩ w.heap.size (w.heap.size + 1) e Bv y W1 W1) := hide ⟨hL1, b3, b5, Below.refl _ _⟩
  have HBW : Hid (∀ W, Below W1.heap.size W1 W → Below base w W ∧ n.In base W) := hide (fun W hb => ⟨hBb.trans (hb.mono (Nat.le_trans hbw hB1.size)), h.below (hBb.trans (hb.mono (Nat.le_trans hbw hB1.size))) (Nat.le_refl _)⟩)
  have hlen120 : e.bag.length ≤ 120 := hfit.many
  have Hfit := hide hfit
  obtain ⟨len, hlen⟩ : ∃ len, len = e.bag.length := ⟨_, rfl⟩
  rw [← hlen] at hbl hlen120
  have Hbl := hide hbl
  have Hlen := hide hlen
  have HS := hide (fun W => sbelow_any loc (len : Int) W)
  obtain ⟨bb, hbb⟩ : ∃ bb, bb = (decide (0 ≤ loc) && decide (loc < (len : Int))) := ⟨_, rfl⟩
  rw [← hbb] at HS
  have Hbb := hide hbb
  rw [hcells] at hW1
  have HW1 := hide hW1
  have HN := hide hN
  have Hcells := hide hcells
  obtain ⟨er, her⟩ : ∃ er, er = e.stepErr n.net (EvM.ev ⟨kind, loc, b, c, ra, rl, rc, rb, ro, f⟩) := ⟨_, rfl⟩
  obtain ⟨e2, he2⟩ : ∃ e2, e2 = (if e.stepErr n.net (EvM.ev ⟨kind, loc, b, c, ra, rl, rc, rb, ro, f⟩) = 0 then e.step n.net (EvM.ev ⟨kind, loc, b, c, ra, rl, rc, rb, ro, f⟩) else e) := ⟨_, rfl⟩
  rw [← he2, ← her]
  have Her := hide her
  have He2 := hide he2
  clear her he2
  rw [NetM.val, EvM.val, EvM.cells, hcells]
  have hk' : kind = 2 ∨ kind = 3 ∨ kind = 4 ∨ kind = 5 := hk
  clear h hL _hv hk hbw hcells hB1 hBb hL1 h1 b3 b5 hW1 hfit hN hbl hlen hbb
  go_enter Tryz.func46, Tryz.ntmps46
  go_wp2
  rw [← HW1.out]
  refine wp_region_only (fun W => HapG base P N n ⟨kind, loc, b, c, ra, rl, rc, rb, ro, f⟩ w.heap.size (w.heap.size + 1) e Bv y W1 W) (valsE [.pointer (some ⟨w.heap.size + 1, 1, none⟩), .int .i64 loc, .pointer (some ⟨P, 0, none⟩), .pointer (some ⟨P, 0, none⟩), .pointer (some ⟨P, 1, none⟩), .slice ba len bc, .int .i64 (len : Int), .bool bb, .bool (!bb)]) (by kernel_rfl) (by kernel_rfl) (by kernel_rfl) (HG1.out.keep ⟨rfl, rfl, rfl, Nat.le_refl _, fun _ _ => rfl⟩) ⟨?_, ?_, ?_, ?_, ?_, ?_, ?_, ?_, ?_, trivial⟩ ?_
  rotate_right
  · intro t W hG hE
    have e8 := valsE_get (hE 8 (by decide)) rfl
    have HG' := hide hG
    clear hE hG
    simp only [fill, Act.put, List.setIfInBounds_toArray, List.set_cons_zero, List.set_cons_succ, e8]
    clear e8
    have hBW := HBW.out W HG'.out.below
    have c0 := HG'.out.ev.cell 0
    have c1 := HG'.out.ev.cell 1
    have c2 := HG'.out.ev.cell 2
    have c3 := HG'.out.ev.cell 3
    have x0 := HG'.out.net.cell 0
    have x1 := HG'.out.net.cell 1
    have x2 := HG'.out.net.cell 2
    have x3 := HG'.out.net.cell 3
    have x4 := HG'.out.net.cell 4
    simp only [Hcells.out] at x0 x1 x2 x3 x4
    simp only [EvM.cells] at c0 c1 c2 c3
    simp at x0 x1 x2 x3 x4 c0 c1 c2 c3
    have HBw := hide hBW.1
    have HnW := hide hBW.2
    have HLW := hide HG'.out.live
    clear hBW HG' HG1 HBW HS
    cases bb with
    | false =>
      have hl : loc < 0 ∨ (len : Int) ≤ loc := by have := Hbb.out; simp at this; omega
      have hst : e.stepErr n.net (EvM.ev ⟨kind, loc, b, c, ra, rl, rc, rb, ro, f⟩) = 5 := by
        have hle := Hlen.out
        unfold Eng.stepErr EvM.ev
        simp only []
        rw [if_neg (by omega), if_pos (by omega), if_pos (by omega)]
      have H2 : Hid (EvAns base P N er e2 w (.returned (.int .i64 5)) W) := hide ⟨by rw [Her.out, hst], ⟨Bv, y, by rw [He2.out, hst, if_neg (by decide)]; exact HLW.out⟩, HBw.out⟩
      clear hst hl hk' x0 x1 x2 x3 x4 c0 c1 c2 c3 hnn hNN
      go_wp2
      first
      | exact H2.out
      | (go_ret; exact H2.out)
    | true =>
      have hl : 0 ≤ loc ∧ loc < (len : Int) := by have := Hbb.out; simp at this; omega
      obtain ⟨i, rfl⟩ : ∃ i : Nat, loc = i := ⟨loc.toNat, by omega⟩
      have hi : i < e.bag.length := by have := Hlen.out; omega
      have hle := Hlen.out
      rcases hk' with rfl | rfl | rfl | rfl
      · have hst : e.stepErr n.net (EvM.ev ⟨2, (i : Int), b, c, ra, rl, rc, rb, ro, f⟩) = 0 := by
          unfold Eng.stepErr EvM.ev
          simp only []
          rw [if_neg (by omega), if_pos (by omega), if_neg (by omega)]
          rfl
        have hsp : e.step n.net (EvM.ev ⟨2, (i : Int), b, c, ra, rl, rc, rb, ro, f⟩) = e.deliver n.net i := by
          unfold Eng.step EvM.ev
          rfl
        have HC := hide (deliver_any n base P N i e Bv y W HnW.out hck HN.out HLW.out Hfit.out hi)
        rw [NetM.val, Hcells.out] at HC
        have her' : er = 0 := Her.out.trans hst
        have he2' : e2 = e.deliver n.net i := by rw [He2.out, hst, hsp, if_pos rfl]
        clear hst hsp hl hnn hNN HnW Hfit hle Her He2
        have Her := hide her'
        have He2 := hide he2'
        clear her' he2'
        go_wp2_with fail
        go_at_call 69
        refine HC.out.mono ?_
        rintro r w3 ⟨rfl, hl3, hb3⟩
        have H2 : Hid (EvAns base P N er e2 w (.returned (.int .i64 0)) w3) := hide ⟨by rw [Her.out], by rw [He2.out]; exact hl3, HBw.out.trans hb3⟩
        clear hl3 hb3 HC HLW HBw
        go_wp2
        first
        | exact H2.out
        | (go_ret; exact H2.out)
      · have hst : e.stepErr n.net (EvM.ev ⟨3, (i : Int), b, c, ra, rl, rc, rb, ro, f⟩) = if 120 ≤ e.bag.length then 2 else 0 := by
          unfold Eng.stepErr EvM.ev
          simp only []
          rw [if_neg (by omega), if_pos (by omega), if_neg (by omega)]
          rfl
        have hsp : e.step n.net (EvM.ev ⟨3, (i : Int), b, c, ra, rl, rc, rb, ro, f⟩) = e.twice i := by
          unfold Eng.step EvM.ev
          rfl
        have HC := hide (twice_all i HLW.out hi (by omega))
        have he : (if ((if 120 ≤ e.bag.length then 2 else 0 : Int)) = 0 then e.twice i else e) = (if 120 ≤ e.bag.length then e else e.twice i) := by
          by_cases hq : 120 ≤ e.bag.length
          · rw [if_pos hq, if_pos hq]; rfl
          · rw [if_neg hq, if_neg hq]; rfl
        have her' : er = if 120 ≤ e.bag.length then 2 else 0 := Her.out.trans hst
        have he2' : e2 = (if 120 ≤ e.bag.length then e else e.twice i) := by rw [He2.out, hst, hsp]; exact he
        rw [← her', ← he2'] at HC
        clear he hst hsp hl hnn hNN HLW HnW Hfit hle her' he2' Her He2
        go_wp2_with fail
        go_at_call 75
        refine HC.out.mono ?_
        rintro r w3 ⟨rfl, hl3, hb3⟩
        have H2 : Hid (EvAns base P N er e2 w (.returned (.int .i64 er)) w3) := hide ⟨rfl, hl3, HBw.out.trans hb3⟩
        clear hl3 hb3 HC HBw
        go_wp2
        first
        | exact H2.out
        | (go_ret; exact H2.out)
      · have hst : e.stepErr n.net (EvM.ev ⟨4, (i : Int), b, c, ra, rl, rc, rb, ro, f⟩) = 0 := by
          unfold Eng.stepErr EvM.ev
          simp only []
          rw [if_neg (by omega), if_pos (by omega), if_neg (by omega)]
          rfl
        have hsp : e.step n.net (EvM.ev ⟨4, (i : Int), b, c, ra, rl, rc, rb, ro, f⟩) = e.without i := by
          unfold Eng.step EvM.ev
          rfl
        have HC := hide (lose_any base P N i e Bv y W HLW.out hi (by omega))
        have her' : er = 0 := Her.out.trans hst
        have he2' : e2 = e.without i := by rw [He2.out, hst, hsp, if_pos rfl]
        clear hst hsp hl hnn hNN HnW Hfit hle Her He2
        have Her := hide her'
        have He2 := hide he2'
        clear her' he2'
        go_wp2_with fail
        go_at_call 76
        refine HC.out.mono ?_
        rintro r w3 ⟨rfl, ⟨B3, hl3⟩, hb3, _⟩
        have H2 : Hid (EvAns base P N er e2 w (.returned (.int .i64 0)) w3) := hide ⟨by rw [Her.out], by rw [He2.out]; exact ⟨B3, y, hl3⟩, HBw.out.trans hb3⟩
        clear hl3 hb3 HC HLW HBw
        go_wp2
        first
        | exact H2.out
        | (go_ret; exact H2.out)
      · have hst : e.stepErr n.net (EvM.ev ⟨5, (i : Int), b, c, ra, rl, rc, rb, ro, f⟩) = if (b < 0 ∨ ((e.bag.getD i noMail).b.length : Int) ≤ b) ∨ (c < 1 ∨ 255 < c) then 3 else 0 := by
          unfold Eng.stepErr EvM.ev
          simp only []
          rw [if_neg (by omega), if_pos (by omega), if_neg (by omega)]
          rfl
        have hsp : e.step n.net (EvM.ev ⟨5, (i : Int), b, c, ra, rl, rc, rb, ro, f⟩) = e.spoil i b.toNat (u8 c) := by
          unfold Eng.step EvM.ev
          rfl
        have HC := hide (spoil_any i b c HLW.out hi (by omega) (Hfit.out.mail _ (getD_mem hi)).2.2)
        have he : (if ((if (b < 0 ∨ ((e.bag.getD i noMail).b.length : Int) ≤ b) ∨ (c < 1 ∨ 255 < c) then 3 else 0 : Int)) = 0 then e.spoil i b.toNat (u8 c) else e) = (if (b < 0 ∨ ((e.bag.getD i noMail).b.length : Int) ≤ b) ∨ (c < 1 ∨ 255 < c) then e else e.spoil i b.toNat (u8 c)) := by
          by_cases hq : (b < 0 ∨ ((e.bag.getD i noMail).b.length : Int) ≤ b) ∨ (c < 1 ∨ 255 < c)
          · rw [if_pos hq, if_pos hq]; rfl
          · rw [if_neg hq, if_neg hq]; rfl
        have her' : er = if (b < 0 ∨ ((e.bag.getD i noMail).b.length : Int) ≤ b) ∨ (c < 1 ∨ 255 < c) then 3 else 0 := Her.out.trans hst
        have he2' : e2 = (if (b < 0 ∨ ((e.bag.getD i noMail).b.length : Int) ≤ b) ∨ (c < 1 ∨ 255 < c) then e else e.spoil i b.toNat (u8 c)) := by rw [He2.out, hst, hsp]; exact he
        rw [← her', ← he2'] at HC
        clear he hst hsp hl hnn hNN HLW HnW Hfit hle her' he2' Her He2
        go_wp2_with fail
        go_at_call 77
        refine HC.out.mono ?_
        rintro r w3 ⟨rfl, hl3, hb3⟩
        have H2 : Hid (EvAns base P N er e2 w (.returned (.int .i64 er)) w3) := hide ⟨rfl, hl3, HBw.out.trans hb3⟩
        clear hl3 hb3 HC HBw
        go_wp2
        first
        | exact H2.out
        | (go_ret; exact H2.out)
  all_goals intro t W hG hp K hK
  all_goals simp only [fill, Act.put, List.setIfInBounds_toArray, List.set_cons_zero, List.set_cons_succ] at hK ⊢
  · rw [if_pos (by rfl)]
    go_simp
    exact hK _ _ hG rfl (fun _ _ _ h => h)
  · have e0 := valsE_get (hp 0 (by decide)) rfl
    have c1 := hG.ev.cell 1
    simp [EvM.cells] at c1
    simp only [e0] at hK ⊢
    rw [if_pos (by rfl)]
    go_simp
    exact hK _ _ hG rfl (fun _ _ _ h => h)
  · rw [if_pos (by rfl)]
    go_simp
    exact hK _ _ hG rfl (fun _ _ _ h => h)
  · have e2 := valsE_get (hp 2 (by decide)) rfl
    simp only [e2] at hK ⊢
    rw [if_pos (by rfl)]
    go_simp
    exact hK _ _ hG rfl (fun _ _ _ h => h)
  · have e3 := valsE_get (hp 3 (by decide)) rfl
    simp only [e3] at hK ⊢
    rw [if_pos (by rfl)]
    go_simp
    exact hK _ _ hG rfl (fun _ _ _ h => h)
  · have e4 := valsE_get (hp 4 (by decide)) rfl
    have p1 := hG.live.head.cell 1
    simp at p1
    rw [Hbl.out] at p1
    simp only [e4] at hK ⊢
    rw [if_pos (by rfl)]
    go_simp
    exact hK _ _ hG rfl (fun _ _ _ h => h)
  · have e5 := valsE_get (hp 5 (by decide)) rfl
    simp only [e5] at hK ⊢
    rw [if_pos (by rfl)]
    go_simp
    exact hK _ _ hG rfl (fun _ _ _ h => h)
  · have e1 := valsE_get (hp 1 (by decide)) rfl
    have e6 := valsE_get (hp 6 (by decide)) rfl
    simp only [e1, e6] at hK ⊢
    rw [if_pos (by rfl)]
    go_simp
    go_at_call 62
    refine (HS.out _).mono ?_
    rintro r w2 ⟨rfl, rfl⟩
    go_simp
    exact hK _ _ hG rfl (fun _ _ _ h => h)
  · have e7 := valsE_get (hp 7 (by decide)) rfl
    simp only [e7] at hK ⊢
    rw [if_pos (by rfl)]
    go_simp
    exact hK _ _ hG rfl (fun _ _ _ h => h)

end Go.Proofs.YtjhkadffaephmabGreat

/-
  engine.happen.
-/
namespace Go.Proofs.YtjhkadffaephmabGreat
set_option maxRecDepth 100000
open Go.RowKit

set_option maxHeartbeats 400000 in
theorem happen_any (n : NetM) (v : EvM) (base P N : Nat) (e : Eng) (Bv : Value) (y : Lay) (w : World) (h : n.In base w) (hck : n.net.check = 0) (hN : n.nodes = N) (hL : Live base P N e Bv y w) (hfit : e.Fit n.net) (hv : v.In base w) :
    Calls Tryz.prog 19 #[n.val, .pointer (some ⟨P, 0, none⟩), v.val] w fun r w' => EvAns base P N (e.stepErr n.net v.ev) (if e.stepErr n.net v.ev = 0 then e.step n.net v.ev else e) w r w' := by
  obtain ⟨hN0, hN6, hNN, hnn⟩ := nodes_six hck hN
  obtain ⟨kind, loc, b, c, ra, rl, rc, rb, ro, f⟩ := v
  have hbw : base ≤ w.heap.size := Nat.le_of_lt (Nat.lt_of_le_of_lt hL.lp hL.head.lt)
  have hcells : n.cells = #[.int .i64 n.a.size, .slice n.a.B.ga n.a.B.t.len n.a.B.cap, .slice n.a.E.ga n.a.E.t.len n.a.E.cap, .int .i64 N, .slice n.la n.ln n.lc] := by simp only [NetM.cells, Mat.val, hN]
  obtain ⟨W1, hW1⟩ : ∃ W1, W1 = (w.alloc (.cells n.cells 27)).alloc (.cells #[.int .i64 kind, .int .i64 loc, .int .i64 b, .int .i64 c, .slice ra rl rc] 34) := ⟨_, rfl⟩
  have hB1 : Below w.heap.size w W1 := by rw [hW1]; exact ((Below.refl _ w).alloc (Nat.le_refl _) _).alloc (by simp) _
  have hBb := hB1.mono hbw
  have hL1 := hL.below hB1
  have h1 := h.below hBb (Nat.le_refl _)
  have hv1 := (hv.below hBb (Nat.le_refl _)).mono (Nat.le_trans hbw hB1.size)
  have b3 : Blk W1 w.heap.size n.cells 27 := by rw [hW1]; exact (Blk.new w _ _).alloc _
  have b5 : Blk W1 (w.heap.size + 1) #[.int .i64 kind, .int .i64 loc, .int .i64 b, .int .i64 c, .slice ra rl rc] 34 := by rw [hW1]; exact Blk.new' (by simp)
  have HnA := hide (fun hk => atNode_any n ⟨kind, loc, b, c, ra, rl, rc, rb, ro, f⟩ base P N e Bv y W1 h1 hck hN hL1 hfit (hv.below hBb (Nat.le_refl _)) hk)
  have HmA := hide (fun hk => atMail_any n ⟨kind, loc, b, c, ra, rl, rc, rb, ro, f⟩ base P N e Bv y W1 h1 hck hN hL1 hfit (hv.below hBb (Nat.le_refl _)) hk)
  obtain ⟨er, her⟩ : ∃ er, er = e.stepErr n.net (EvM.ev ⟨kind, loc, b, c, ra, rl, rc, rb, ro, f⟩) := ⟨_, rfl⟩
  obtain ⟨e2, he2⟩ : ∃ e2, e2 = (if e.stepErr n.net (EvM.ev ⟨kind, loc, b, c, ra, rl, rc, rb, ro, f⟩) = 0 then e.step n.net (EvM.ev ⟨kind, loc, b, c, ra, rl, rc, rb, ro, f⟩) else e) := ⟨_, rfl⟩
  rw [← he2, ← her] at HnA HmA ⊢
  simp only [NetM.val, EvM.val, EvM.cells, hcells] at HnA HmA ⊢
  have Hb1 := hide hBb
  have HLW := hide hL1
  rw [hcells] at hW1
  rw [hW1] at HnA HmA Hb1 HLW
  have Her := hide her
  have He2 := hide he2
  clear h hL hv hbw hcells hB1 hBb hL1 h1 hv1 b3 b5 hW1 hfit hN her he2 hck hNN hnn
  by_cases hx : kind < 1 ∨ 7 < kind
  · have hst : e.stepErr n.net (EvM.ev ⟨kind, loc, b, c, ra, rl, rc, rb, ro, f⟩) = 7 := by
      unfold Eng.stepErr EvM.ev
      simp only []
      rw [if_pos hx]
    have H2 := hide (show EvAns base P N er e2 w (.returned (.int .i64 7)) _ from ⟨by rw [Her.out, hst], ⟨Bv, y, by rw [He2.out, hst, if_neg (by decide)]; exact HLW.out⟩, Hb1.out⟩)
    have k1 : (kind == 1) = false := by simp; omega
    have k2 : (kind == 2) = false := by simp; omega
    have k3 : (kind == 3) = false := by simp; omega
    have k4 : (kind == 4) = false := by simp; omega
    have k5 : (kind == 5) = false := by simp; omega
    have k6 : (kind == 6) = false := by simp; omega
    have k7 : (kind == 7) = false := by simp; omega
    clear hst hx HnA HmA Her He2
    go_enter Tryz.func19, Tryz.ntmps19
    go_wp2
    first
    | exact H2.out
    | (go_ret; exact H2.out)
  have hk7 : kind = 1 ∨ kind = 6 ∨ kind = 7 ∨ kind = 2 ∨ kind = 3 ∨ kind = 4 ∨ kind = 5 := by omega
  clear hx Her He2
  rcases hk7 with rfl | rfl | rfl | rfl | rfl | rfl | rfl
  · have HC := hide (HnA.out (by omega))
    clear HnA HmA
    go_enter Tryz.func19, Tryz.ntmps19
    go_wp2_with fail
    go_at_call 45
    refine HC.out.mono ?_
    rintro r w3 ⟨rfl, hl3, hb3⟩
    have H2 : Hid (EvAns base P N er e2 w (.returned (.int .i64 er)) w3) := hide ⟨rfl, hl3, Hb1.out.trans hb3⟩
    clear hl3 hb3 HC Hb1 HLW
    go_wp2
    first
    | exact H2.out
    | (go_ret; exact H2.out)
  · have HC := hide (HnA.out (by omega))
    clear HnA HmA
    go_enter Tryz.func19, Tryz.ntmps19
    go_wp2_with fail
    go_at_call 45
    refine HC.out.mono ?_
    rintro r w3 ⟨rfl, hl3, hb3⟩
    have H2 : Hid (EvAns base P N er e2 w (.returned (.int .i64 er)) w3) := hide ⟨rfl, hl3, Hb1.out.trans hb3⟩
    clear hl3 hb3 HC Hb1 HLW
    go_wp2
    first
    | exact H2.out
    | (go_ret; exact H2.out)
  · have HC := hide (HnA.out (by omega))
    clear HnA HmA
    go_enter Tryz.func19, Tryz.ntmps19
    go_wp2_with fail
    go_at_call 45
    refine HC.out.mono ?_
    rintro r w3 ⟨rfl, hl3, hb3⟩
    have H2 : Hid (EvAns base P N er e2 w (.returned (.int .i64 er)) w3) := hide ⟨rfl, hl3, Hb1.out.trans hb3⟩
    clear hl3 hb3 HC Hb1 HLW
    go_wp2
    first
    | exact H2.out
    | (go_ret; exact H2.out)
  · have HC := hide (HmA.out (by omega))
    clear HnA HmA
    go_enter Tryz.func19, Tryz.ntmps19
    go_wp2_with fail
    go_at_call 46
    refine HC.out.mono ?_
    rintro r w3 ⟨rfl, hl3, hb3⟩
    have H2 : Hid (EvAns base P N er e2 w (.returned (.int .i64 er)) w3) := hide ⟨rfl, hl3, Hb1.out.trans hb3⟩
    clear hl3 hb3 HC Hb1 HLW
    go_wp2
    first
    | exact H2.out
    | (go_ret; exact H2.out)
  · have HC := hide (HmA.out (by omega))
    clear HnA HmA
    go_enter Tryz.func19, Tryz.ntmps19
    go_wp2_with fail
    go_at_call 46
    refine HC.out.mono ?_
    rintro r w3 ⟨rfl, hl3, hb3⟩
    have H2 : Hid (EvAns base P N er e2 w (.returned (.int .i64 er)) w3) := hide ⟨rfl, hl3, Hb1.out.trans hb3⟩
    clear hl3 hb3 HC Hb1 HLW
    go_wp2
    first
    | exact H2.out
    | (go_ret; exact H2.out)
  · have HC := hide (HmA.out (by omega))
    clear HnA HmA
    go_enter Tryz.func19, Tryz.ntmps19
    go_wp2_with fail
    go_at_call 46
    refine HC.out.mono ?_
    rintro r w3 ⟨rfl, hl3, hb3⟩
    have H2 : Hid (EvAns base P N er e2 w (.returned (.int .i64 er)) w3) := hide ⟨rfl, hl3, Hb1.out.trans hb3⟩
    clear hl3 hb3 HC Hb1 HLW
    go_wp2
    first
    | exact H2.out
    | (go_ret; exact H2.out)
  · have HC := hide (HmA.out (by omega))
    clear HnA HmA
    go_enter Tryz.func19, Tryz.ntmps19
    go_wp2_with fail
    go_at_call 46
    refine HC.out.mono ?_
    rintro r w3 ⟨rfl, hl3, hb3⟩
    have H2 : Hid (EvAns base P N er e2 w (.returned (.int .i64 er)) w3) := hide ⟨rfl, hl3, Hb1.out.trans hb3⟩
    clear hl3 hb3 HC Hb1 HLW
    go_wp2
    first
    | exact H2.out
    | (go_ret; exact H2.out)

end Go.Proofs.YtjhkadffaephmabGreat
