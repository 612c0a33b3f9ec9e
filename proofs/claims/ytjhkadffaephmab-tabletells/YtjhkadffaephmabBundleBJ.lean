/-
  Our own texts, bundled: a claim holds few files.
-/
import Derived.Test.YtjhkadffaephmabBundleBI
import Derived.Test.YtjhkadffaephmabBundleAJ
import Derived.Test.YtjhkadffaephmabBundleBG
import Derived.Test.YtjhkadffaephmabBundleBH
/-
  signpostref.Column, RoundOf.
-/
namespace Go.Proofs.Ytjhkadffaephmab
set_option maxRecDepth 100000
open Go.RowKit

/-- i rows of the round, and j routes of the next. -/
structure RndI (w1 : World) (N : Nat) (Z : Nat → Nat → Int) (Vo : Value) (i H : Nat) (Vr : Value) (j : Nat) (W : World) : Prop where
  below : Below w1.heap.size w1 W
  tab : OwnTab w1.heap.size H Vo i N Z W
  lo : w1.heap.size ≤ H
  hi : H ≤ W.heap.size
  row : W.ownsRow H 3 1 Vr j (intsL (Z i) j)
theorem RndI.keep {w1 : World} {N : Nat} {Z : Nat → Nat → Int} {Vo : Value} {i H : Nat} {Vr : Value} {j : Nat} {W W' : World} (h : RndI w1 N Z Vo i H Vr j W) (hb : Below W.heap.size W W') : RndI w1 N Z Vo i H Vr j W' :=
  ⟨h.below.trans (hb.mono h.below.size), h.tab.below hb, h.lo, Nat.le_trans h.hi hb.size, owns_below h.row hb⟩
theorem RndI.push {w1 : World} {N : Nat} {Z : Nat → Nat → Int} {Vo : Value} {i H : Nat} {Vr V' : Value} {j : Nat} {W W' : World} (h : RndI w1 N Z Vo i H Vr j W) (hg : W.grownBy W' Vr.ownBlock)
    (ho : W'.ownsRow H 3 1 V' (j + 1) (intsL (Z i) j ++ [.int .i64 (Z i j)])) : RndI w1 N Z Vo i H V' (j + 1) W' :=
  ⟨h.below.trans (grown_below hg (fun g hg => by have := (h.row.lt g hg).1; have := h.lo; omega) h.below.size), h.tab.kept hg (fun k hk => Or.inr (h.row.lt k hk).1), h.lo, Nat.le_trans h.hi hg.size, by rw [intsL_succ]; exact ho⟩

/-- What the operations of the inner region leave. -/
def RndE (n : NetM) (x : Mat) (N : Nat) (Vr : Value) (i j : Nat) (k : Nat) (v : Value) (W : World) : Prop :=
  match k with
  | 0 => v = Vr
  | 1 => v = n.val
  | 2 => v = .int .i64 i
  | 3 => v = .int .i64 j
  | 4 => v = x.val
  | 5 => v = .int .i64 j
  | 6 => ∃ g c : Nat, v = .slice (some ⟨g, 0, none⟩) N c ∧ g < W.heap.size ∧ Ints (some ⟨g, 0, none⟩) N g 0 (fun r => x.t.Z r j) W
  | 7 => v = .int .i64 (n.net.round x.t.Z i j)
  | _ => ∃ b : Nat, v = .slice (some ⟨b, 0, none⟩) 1 1 ∧ Blk W b #[.int .i64 (n.net.round x.t.Z i j)] 3
theorem RndE.keep {n : NetM} {x : Mat} {N : Nat} {Vr : Value} {i j : Nat} {W W' : World} (hb : Below W.heap.size W W') (k : Nat) (v : Value) (h : RndE n x N Vr i j k v W) : RndE n x N Vr i j k v W' := by
  unfold RndE at *
  split at h
  all_goals first | exact h | skip
  · obtain ⟨g, c, h1, h2, h3⟩ := h
    exact ⟨g, c, h1, Nat.lt_of_lt_of_le h2 hb.size, h3.below hb (fun _ => h2)⟩
  · obtain ⟨b, h1, h2⟩ := h
    exact ⟨b, h1, h2.below hb h2.lt⟩

end Go.Proofs.Ytjhkadffaephmab

/-
  signpostref.BeginOf, SettleOf; signpostlaw.stateIs.
-/
namespace Go.Proofs.Ytjhkadffaephmab
set_option maxRecDepth 100000
open Go.RowKit

end Go.Proofs.Ytjhkadffaephmab

/-
  signpostlaw.stateIs, NetRounds, NetSettles: the walks.
-/
namespace Go.Proofs.Ytjhkadffaephmab
set_option maxRecDepth 100000
open Go.RowKit

set_option maxHeartbeats 1000000 in
theorem stateIs_yes (x y : Mat) (E : Int) (k : Nat) (w : World) (hx : x.In k w) (hy : y.In k w) (h0 : E = 0 → x.t.same y.t = true) (h1 : E ≠ 0 → x.t.len = 0) :
    Calls Try.prog 57 #[x.val, .int .i64 E, .int .i64 E, y.val] w fun e w' => e = .returned (.bool true) ∧ ∃ q, w' = w.drewN q := by
  by_cases hE : E = 0
  · subst hE
    have HS := hide (sameState_any x y k w hx hy)
    rw [h0 rfl] at HS
    simp only [Mat.val] at HS ⊢
    clear h0 h1 hx hy
    go_enter Try.func57, Try.ntmps57
    go_wp2_with fail
    go_at_call 30
    refine HS.out.mono ?_
    rintro e w1 ⟨rfl, q, rfl⟩
    go_wp2
    go_ret
    exact ⟨rfl, q, rfl⟩
  · have hsm : x.t.same nilM.t = true := by
      rw [Tab.same_iff]
      exact ⟨h1 hE, fun r hr => by rw [h1 hE] at hr; exact absurd hr (Nat.not_lt_zero _)⟩
    have HS := hide (sameState_any x nilM k w hx (nilM_in _ _))
    rw [hsm] at HS
    have hE' : (E != 0) = true := by simp [hE]
    simp only [Mat.val, nilM] at HS ⊢
    clear h0 h1 hx hy hE hsm
    go_enter Try.func57, Try.ntmps57
    go_wp2_with fail
    go_at_call 30
    refine HS.out.mono ?_
    rintro e w1 ⟨rfl, q, rfl⟩
    go_wp2
    go_ret
    exact ⟨rfl, q, rfl⟩

/-- What stands all through the region of two calls. -/
structure NRG (w : World) (n : NetM) (y b : Mat) (N : Nat) (Zy Zb : Nat → Nat → Int) (ft ck : Int) (W : World) : Prop where
  below : Below w.heap.size w W
  blk : Blk W w.heap.size n.cells 41
  y : StateAns N w.heap.size Zy ft y W
  b : StateAns N w.heap.size Zb ck b W
theorem NRG.keep {w : World} {n : NetM} {y b : Mat} {N : Nat} {Zy Zb : Nat → Nat → Int} {ft ck : Int} {W W' : World} (h : NRG w n y b N Zy Zb ft ck W) (hb : Below W.heap.size W W') : NRG w n y b N Zy Zb ft ck W' :=
  ⟨h.below.trans (hb.mono h.below.size), h.blk.below hb h.blk.lt, h.y.grown hb, h.b.grown hb⟩

theorem StateAns.lower {N lo lo' : Nat} {Z : Nat → Nat → Int} {E : Int} {m : Mat} {W : World} (h : StateAns N lo Z E m W) (hl : lo' ≤ lo) : StateAns N lo' Z E m W := ⟨h.mem, h.own.mono hl, h.ok, h.bad⟩

end Go.Proofs.Ytjhkadffaephmab
