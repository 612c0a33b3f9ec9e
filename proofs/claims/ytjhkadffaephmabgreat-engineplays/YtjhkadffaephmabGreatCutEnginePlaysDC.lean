/-
  Our own texts, bundled: a claim holds few files.
-/
import Derived.Test.YtjhkadffaephmabGreatCutEnginePlaysAF
import Derived.Test.YtjhkadffaephmabGreatCutEnginePlaysDB
import Derived.Test.YtjhkadffaephmabGreatCutEnginePlaysBJ
import Derived.Test.YtjhkadffaephmabGreatCutEnginePlaysAD
import Derived.Test.YtjhkadffaephmabGreatCutEnginePlaysCA
/-
  The engine of the two-node net: its numbers.
-/
namespace Go.Proofs.YtjhkadffaephmabGreat
set_option maxRecDepth 100000

def newE (n : Net) : Eng := ⟨n.begin, fun _ _ => false, fun _ _ _ => 0, []⟩
def tickV : Ev := ⟨1, 1, 0, 0, 0, fun _ => 0⟩
def delivV : Ev := ⟨2, 0, 0, 0, 0, fun _ => 0⟩

theorem beg_one : (newE twoNet).stepErr twoNet tickV = 0 := by kernel_rfl
theorem beg_two : ((newE twoNet).step twoNet tickV).stepErr twoNet delivV = 0 := by kernel_rfl
theorem beg_bag : (((newE twoNet).step twoNet tickV).step twoNet delivV).bag = [] := by kernel_rfl
theorem beg_r0 : (((newE twoNet).step twoNet tickV).step twoNet delivV).R 0 0 = 0 := by kernel_rfl
theorem beg_r1 : (((newE twoNet).step twoNet tickV).step twoNet delivV).R 0 1 = 1 := by kernel_rfl

end Go.Proofs.YtjhkadffaephmabGreat

/-
 signpostlaw.engineBegun.
-/
namespace Go.Proofs.YtjhkadffaephmabGreat
set_option maxRecDepth 100000
open Go.RowKit

/-- An engine of the two-node net, in memory, with nothing in block q. -/
structure BegM (m : EngM) (e : Eng) (q : Nat) (W : World) : Prop where
 mem : m.In W.heap.size W
 ok : m.err twoNet = 0
 eng : m.eng = e
 off : m.Clear q
theorem BegM.keep {m : EngM} {e : Eng} {q : Nat} {W W' : World} (h : BegM m e q W) (hb : Below W.heap.size W W') : BegM m e q W' := ⟨h.mem.grown hb, h.ok, h.eng, h.off⟩
theorem BegM.store {m : EngM} {e : Eng} {q : Nat} {W : World} (h : BegM m e q W) (u v : Value) : BegM m e q ((W.setCell ⟨q, 0, none⟩ u).setCell ⟨q, 1, none⟩ v) := by
 have := (h.mem.set h.off 0 u).set h.off 1 v
 exact ⟨by simpa using this, h.ok, h.eng, h.off⟩

/-- The engine's box. -/
structure BegG (w : World) (q : Nat) (e : Eng) (W : World) : Prop where
 below : Below w.heap.size w W
 lo : w.heap.size ≤ q
 box : ∃ m : EngM, Blk W q m.cells 31 ∧ BegM m e q W
theorem BegG.keep {w : World} {q : Nat} {e : Eng} {W W' : World} (h : BegG w q e W) (hb : Below W.heap.size W W') : BegG w q e W' := by
 obtain ⟨m, h1, h2⟩ := h.box
 exact ⟨h.below.trans (hb.mono h.below.size), h.lo, m, h1.below hb h1.lt, h2.keep hb⟩

/-- What the operations of a step leave: b tells whether the box was written. -/
def begE (e0 e1 : Eng) (q : Nat) (ev : Value) (b : Bool) (k : Nat) (v : Value) (W : World) : Prop :=
 match k with
 | 0 => b = false → ∃ n : NetM, v = n.val ∧ n.net = twoNet ∧ n.In W.heap.size W
 | 1 => b = false → ∃ m : EngM, v = m.val ∧ BegM m e0 q W
 | 2 => v = ev
 | 3 => (∃ u, v = .tuple #[u, .int .i64 0]) ∧ (b = false → ∃ m : EngM, v = .tuple #[m.val, .int .i64 0] ∧ BegM m e1 q W)
 | 4 => (∃ u, v = .tuple #[u, .int .i64 0]) ∧ (b = false → ∃ m : EngM, v = .tuple #[m.val, .int .i64 0] ∧ BegM m e1 q W)
 | 5 => b = false → ∃ m : EngM, v = m.val ∧ BegM m e1 q W
 | 6 => v = .int .i64 0
 | 7 => True
 | _ => v = .int .i64 0
theorem begE_keep {e0 e1 : Eng} {q : Nat} {ev : Value} {b : Bool} {k : Nat} {v : Value} {W W' : World} (hb : Below W.heap.size W W') (h : begE e0 e1 q ev b k v W) : begE e0 e1 q ev b k v W' := by
 match k, h with
 | 0, h => exact fun h0 => by obtain ⟨n, h1, h2, h3⟩ := h h0; exact ⟨n, h1, h2, h3.grown hb⟩
 | 1, h => exact fun h0 => by obtain ⟨m, h1, h2⟩ := h h0; exact ⟨m, h1, h2.keep hb⟩
 | 2, h => exact h
 | 3, h => exact ⟨h.1, fun h0 => by obtain ⟨m, h1, h2⟩ := h.2 h0; exact ⟨m, h1, h2.keep hb⟩⟩
 | 4, h => exact ⟨h.1, fun h0 => by obtain ⟨m, h1, h2⟩ := h.2 h0; exact ⟨m, h1, h2.keep hb⟩⟩
 | 5, h => exact fun h0 => by obtain ⟨m, h1, h2⟩ := h h0; exact ⟨m, h1, h2.keep hb⟩
 | 6, h => exact h
 | 7, h => exact trivial
 | _ + 8, h => exact h
theorem begE_store {e0 e1 : Eng} {q : Nat} {ev : Value} {k : Nat} {v : Value} {W : World} (W' : World) (h : begE e0 e1 q ev false k v W) : begE e0 e1 q ev true k v W' := by
 match k, h with
 | 0, h => exact fun h0 => by cases h0
 | 1, h => exact fun h0 => by cases h0
 | 2, h => exact h
 | 3, h => exact ⟨h.1, fun h0 => by cases h0⟩
 | 4, h => exact ⟨h.1, fun h0 => by cases h0⟩
 | 5, h => exact fun h0 => by cases h0
 | 6, h => exact h
 | 7, h => exact trivial
 | _ + 8, h => exact h

def tickM : EvM := ⟨1, 1, 0, 0, none, 0, 0, 0, 0, fun _ => 0⟩
def delivM : EvM := ⟨2, 0, 0, 0, none, 0, 0, 0, 0, fun _ => 0⟩
theorem bareEv_in {a b c d : Int} {N : Nat} {w : World} : (EvM.mk a b c d none 0 0 0 0 (fun _ => 0)).In N w :=
 ⟨⟨fun h => absurd h (Nat.lt_irrefl _), fun _ h => absurd h (Nat.not_lt_zero _), Nat.zero_le _⟩, fun h => absurd h (Nat.lt_irrefl _), Nat.zero_le _⟩
def litRow (a b : Int) : Nat → Int := fun i => if i = 0 then a else b

/-- The values of the last region, but for the net and the row that are made. -/
def begF (vs : List Value) (k : Nat) (v : Value) (W : World) : Prop :=
 if k = 11 then ∃ n : NetM, v = n.val ∧ n.net = twoNet ∧ n.In W.heap.size W
 else if k = 34 then ∃ g, v = .slice (some ⟨g, 0, none⟩) 2 2 ∧ Blk W g #[.int .i64 0, .int .i64 1] 3
 else vs[k]? = some v
theorem begF_keep {vs : List Value} {k : Nat} {v : Value} {W W' : World} (hb : Below W.heap.size W W') (h : begF vs k v W) : begF vs k v W' := by
 unfold begF at h ⊢
 by_cases e1 : k = 11
 ·rw [if_pos e1] at h ⊢
  obtain ⟨n, h1, h2, h3⟩ := h
  exact ⟨n, h1, h2, h3.grown hb⟩
 rw [if_neg e1] at h ⊢
 by_cases e2 : k = 34
 ·rw [if_pos e2] at h ⊢
  obtain ⟨g, h1, h2⟩ := h
  exact ⟨g, h1, h2.below hb h2.lt⟩
 rw [if_neg e2] at h ⊢
 exact h
theorem begF_get {vs : List Value} {k : Nat} {v u : Value} {W : World} (h : begF vs k v W) (h1 : k ≠ 11) (h2 : k ≠ 34) (hu : vs[k]? = some u) : v = u := by
 unfold begF at h
 rw [if_neg h1, if_neg h2, hu] at h
 exact (Option.some.inj h).symm

structure BegL (w : World) (q : Nat) (m : EngM) (e : Eng) (W : World) : Prop where
 below : Below w.heap.size w W
 blk : Blk W q m.cells 31
 mem : BegM m e q W
theorem BegL.keep {w : World} {q : Nat} {m : EngM} {e : Eng} {W W' : World} (h : BegL w q m e W) (hb : Below W.heap.size W W') : BegL w q m e W' := ⟨h.below.trans (hb.mono h.below.size), h.blk.below hb h.blk.lt, h.mem.keep hb⟩

/-- A step of the two-node net's engine. -/
theorem beg_step {e0 : Eng} {v : EvM} (he : e0.stepErr twoNet v.ev = 0) (n : NetM) (hn : n.net = twoNet) (x : EngM) (q : Nat) (w : World) (h : n.In w.heap.size w) (hx : BegM x e0 q w) (hv : v.In w.heap.size w) (hq : q < w.heap.size) :
  Calls Tryz.prog 5 #[n.val, x.val, v.val] w fun r w' => (∃ m : EngM, r = .returned (.tuple #[m.val, .int .i64 0]) ∧ BegM m (e0.step twoNet v.ev) q w') ∧ Below w.heap.size w w' := by
 refine (step_any n x v w h hx.mem hv).mono ?_
 rw [hn]
 rintro r w' ⟨hb, h1 | h1 | h1⟩
 ·exact absurd hx.ok h1.1
 ·exact absurd (by rw [hx.eng]; exact he) h1.2.1
 ·obtain ⟨_, _, m, h2, h3, h4, h5, h6, _⟩ := h1
  exact ⟨⟨m, h2, h3, h5, by rw [h4, hx.eng], h6.clear hq⟩, hb⟩

set_option maxHeartbeats 4000000 in
theorem engineBegun_any (w : World) :
  Calls Tryz.prog 12 #[] w fun e w' => e = .returned (.bool true) ∧ Below w.heap.size w w' := by
 go_enter Tryz.func12, Tryz.ntmps12
 go_wp2_with fail
 go_at_call 37
 refine (two_any _).mono ?_
 rintro e w1 ⟨⟨n1, rfl, hn1, hI1⟩, hb1⟩
 have HN := hide (new_any n1 w1 hI1)
 rw [hn1] at HN
 clear hI1
 simp only [NetM.val, NetM.cells, Mat.val] at HN ⊢
 go_wp2_with fail
 go_at_call 6
 refine HN.out.mono ?_
 rintro e w2 ⟨hb2, hA | hA⟩
 ·exact absurd two_check hA.1
 obtain ⟨_, m, rfl, hm, hmk, hme⟩ := hA
 have hB2 := hb1.trans (hb2.mono hb1.size)
 obtain ⟨w3, hw3⟩ : ∃ w3, w3 = w2.alloc (.cells m.cells 31) := ⟨_, rfl⟩
 have hb3 : Below w2.heap.size w2 w3 := by rw [hw3]; exact (Below.refl _ w2).alloc (Nat.le_refl _) _
 obtain ⟨q, hq⟩ : ∃ q, q = w2.heap.size := ⟨_, rfl⟩
 have HG0 : Hid (BegG w q (newE twoNet) w3) := hide ⟨hB2.trans (hb3.mono hB2.size), by rw [hq]; exact hB2.size, m, by rw [hw3, hq]; exact Blk.new w2 _ _, hm.grown hb3, hmk, hme, hm.clear (by omega)⟩
 have HT := hide beg_one
 have HD := hide beg_two
 clear HN hb1 hb2 hb3 hB2 hm hmk hme
 simp only [EngM.val, EngM.cells] at hw3 ⊢
 go_wp2_with fail
 rw [← hw3, ← hq]
 clear hw3 hq
 refine wp_region_mark 7 9 (fun b W => BegG w q (if b = true then (newE twoNet).step twoNet tickM.ev else (newE twoNet)) W) (begE (newE twoNet) ((newE twoNet).step twoNet tickM.ev) q (.agg #[.int .i64 1, .int .i64 1, .int .i64 0, .int .i64 0, .slice none 0 0])) (by kernel_rfl) (by kernel_rfl) (by kernel_rfl) (by decide) (HG0.out.keep ⟨rfl, rfl, rfl, Nat.le_refl _, fun _ _ => rfl⟩) ⟨?_, ?_, ?_, ?_, ?_, ?_, ?_, ?_, ?_, trivial⟩ ?_
 rotate_right
 ·intro t W hG hE
  have e8 : t 8 = .int .i64 0 := hE 8 (by decide)
  have HG1 := hide hG
  clear hE hG HG0
  simp only [fill, Act.put, List.setIfInBounds_toArray, List.set_cons_zero, List.set_cons_succ, e8]
  clear e8
  go_wp2_with fail
  refine wp_region_mark 7 9 (fun b W => BegG w q (if b = true then ((newE twoNet).step twoNet tickM.ev).step twoNet delivM.ev else ((newE twoNet).step twoNet tickM.ev)) W) (begE ((newE twoNet).step twoNet tickM.ev) (((newE twoNet).step twoNet tickM.ev).step twoNet delivM.ev) q (.agg #[.int .i64 2, .int .i64 0, .int .i64 0, .int .i64 0, .slice none 0 0])) (by kernel_rfl) (by kernel_rfl) (by kernel_rfl) (by decide) (HG1.out.keep ⟨rfl, rfl, rfl, Nat.le_refl _, fun _ _ => rfl⟩) ⟨?_, ?_, ?_, ?_, ?_, ?_, ?_, ?_, ?_, trivial⟩ ?_
  rotate_right
  ·intro t' W' hG hE
   have e8 : t' 8 = .int .i64 0 := hE 8 (by decide)
   have hG : BegG w q (((newE twoNet).step twoNet tickV).step twoNet delivV) W' := hG
   obtain ⟨hbel, _, m3, hblk, hm3⟩ := hG
   have HL : Hid (BegL w q m3 (((newE twoNet).step twoNet tickV).step twoNet delivV) W') := hide ⟨hbel, hblk, hm3⟩
   have hR := EngM.right (N := 2) hm3.ok rfl
   have hgn := hR.gn
   have hrl := hR.rl 0 (by decide)
   have hbn : m3.bag.bn = 0 := by
    have := congrArg Eng.bag hm3.eng
    have h2 := congrArg List.length this
    rw [show List.length (Eng.bag _) = 0 from congrArg List.length beg_bag] at h2
    simpa [EngM.eng] using h2
   have Hr0 : Hid (sameInts 2 2 (m3.rs.r 0).R (litRow 0 1) = true) := hide (by
    have h2 : (m3.rs.r 0).R = (((newE twoNet).step twoNet tickV).step twoNet delivV).R 0 := by
     have := congrArg Eng.R hm3.eng
     exact congrFun this 0
    rw [h2]
    refine sameInts_iff.2 ⟨rfl, fun i hi => ?_⟩
    match i, hi with
    | 0, _ => exact beg_r0
    | 1, _ => exact beg_r1)
   have HCk := hide (fun (n : NetM) (hn : n.net = twoNet) (W : World) (hI : n.In W.heap.size W) (hL : BegL w q m3 (((newE twoNet).step twoNet tickV).step twoNet delivV) W) => (hn ▸ engineCheck_any n m3 W hI hL.mem.mem : Calls Tryz.prog 9 #[n.val, m3.val] W fun e w' => e = .returned (.int .i64 (m3.err twoNet)) ∧ Below W.heap.size W w'))
   rw [hm3.ok] at HCk
   obtain ⟨⟨ga, gn, gc, gb, go, rr⟩, ⟨ba, bn, bc, bb, bo, M⟩⟩ := m3
   simp only at hgn hrl hbn Hr0
   subst hgn hbn
   obtain ⟨r0, hr0⟩ : ∃ r0, r0 = rr 0 := ⟨_, rfl⟩
   have Hr := hide hr0
   rw [← hr0] at hrl Hr0
   obtain ⟨ra, rl, rc, rb, ro, R, T⟩ := r0
   simp only at hrl Hr0
   subst hrl
   have Hga : Hid (ga = some ⟨gb, go, none⟩) := hide (hm3.mem.rs.ga (show 0 < 2 by decide))
   clear hE hm3 hblk hbel hR hr0 HG1 HT HD
   simp only [fill, Act.put, List.setIfInBounds_toArray, List.set_cons_zero, List.set_cons_succ, e8]
   clear e8
   go_wp2_with fail
   refine wp_region_only (fun W => BegL w q ⟨⟨ga, 2, gc, gb, go, rr⟩, ⟨ba, 0, bc, bb, bo, M⟩⟩ (((newE twoNet).step twoNet tickV).step twoNet delivV) W) (begF [.int .i64 0, .bool true, .bool true, .int .i64 0, .bool true, .bool true, .bool true, .int .i64 0, .bool true, .bool true, .bool true, undef, .agg #[.slice ga 2 gc, .slice ba 0 bc], .int .i64 0, .bool true, .bool true, .bool true, .pointer (some ⟨q, 1, none⟩), .slice ba 0 bc, .int .i64 0, .bool true, .bool true, .bool true, .pointer (some ⟨q, 0, none⟩), .slice (some ⟨gb, go, none⟩) 2 gc, .int .i64 2, .bool true, .bool true, .bool true, .pointer (some ⟨q, 0, none⟩), .slice (some ⟨gb, go, none⟩) 2 gc, .pointer (some ⟨gb, go, none⟩), .pointer (some ⟨gb, go, none⟩), .slice ra 2 rc, undef, .bool true, .bool true, .bool true]) (by kernel_rfl) (by kernel_rfl) (by kernel_rfl) (HL.out.keep ⟨rfl, rfl, rfl, Nat.le_refl _, fun _ _ => rfl⟩) ⟨?_, ?_, ?_, ?_, ?_, ?_, ?_, ?_, ?_, ?_, ?_, ?_, ?_, ?_, ?_, ?_, ?_, ?_, ?_, ?_, ?_, ?_, ?_, ?_, ?_, ?_, ?_, ?_, ?_, ?_, ?_, ?_, ?_, ?_, ?_, ?_, ?_, ?_, trivial⟩ ?_
   rotate_right
   ·intro t W hG hE
    have e37 := begF_get (hE 37 (by decide)) (by decide) (by decide) rfl
    have HG' := hide hG
    clear hE hG
    simp only [fill, Act.put, List.setIfInBounds_toArray, List.set_cons_zero, List.set_cons_succ, e37]
    clear e37
    go_wp2
    go_ret
    exact ⟨rfl, HG'.out.below⟩
   all_goals intro t W hG hp K hK
   all_goals simp only [fill, Act.put, List.setIfInBounds_toArray, List.set_cons_zero, List.set_cons_succ] at hK ⊢
   ·rw [if_pos (by rfl)]
    go_simp
    exact hK _ _ hG rfl (fun _ _ _ h => h)
   ·have e0 := begF_get (hp 0 (by decide)) (by decide) (by decide) rfl
    simp only [e0] at hK ⊢
    rw [if_pos (by rfl)]
    go_simp
    exact hK _ _ hG rfl (fun _ _ _ h => h)
   ·have e1 := begF_get (hp 1 (by decide)) (by decide) (by decide) rfl
    simp only [e1] at hK ⊢
    rw [if_pos (by rfl)]
    go_simp
    exact hK _ _ hG rfl (fun _ _ _ h => h)
   ·have e2 := begF_get (hp 2 (by decide)) (by decide) (by decide) rfl
    simp only [e2] at hK ⊢
    rw [if_pos (by rfl)]
    go_simp
    exact hK _ _ hG rfl (fun _ _ _ h => h)
   ·have e2 := begF_get (hp 2 (by decide)) (by decide) (by decide) rfl
    have e3 := begF_get (hp 3 (by decide)) (by decide) (by decide) rfl
    simp only [e2, e3] at hK ⊢
    rw [if_pos (by rfl)]
    go_simp
    exact hK _ _ hG rfl (fun _ _ _ h => h)
   ·have e2 := begF_get (hp 2 (by decide)) (by decide) (by decide) rfl
    have e4 := begF_get (hp 4 (by decide)) (by decide) (by decide) rfl
    simp only [e2, e4] at hK ⊢
    rw [if_pos (by rfl)]
    go_simp
    exact hK _ _ hG rfl (fun _ _ _ h => h)
   ·have e5 := begF_get (hp 5 (by decide)) (by decide) (by decide) rfl
    simp only [e5] at hK ⊢
    rw [if_pos (by rfl)]
    go_simp
    exact hK _ _ hG rfl (fun _ _ _ h => h)
   ·have e6 := begF_get (hp 6 (by decide)) (by decide) (by decide) rfl
    simp only [e6] at hK ⊢
    rw [if_pos (by rfl)]
    go_simp
    exact hK _ _ hG rfl (fun _ _ _ h => h)
   ·have e6 := begF_get (hp 6 (by decide)) (by decide) (by decide) rfl
    have e7 := begF_get (hp 7 (by decide)) (by decide) (by decide) rfl
    simp only [e6, e7] at hK ⊢
    rw [if_pos (by rfl)]
    go_simp
    exact hK _ _ hG rfl (fun _ _ _ h => h)
   ·have e6 := begF_get (hp 6 (by decide)) (by decide) (by decide) rfl
    have e8 := begF_get (hp 8 (by decide)) (by decide) (by decide) rfl
    simp only [e6, e8] at hK ⊢
    rw [if_pos (by rfl)]
    go_simp
    exact hK _ _ hG rfl (fun _ _ _ h => h)
   ·have e9 := begF_get (hp 9 (by decide)) (by decide) (by decide) rfl
    simp only [e9] at hK ⊢
    rw [if_pos (by rfl)]
    go_simp
    exact hK _ _ hG rfl (fun _ _ _ h => h)
   ·have e10 := begF_get (hp 10 (by decide)) (by decide) (by decide) rfl
    simp only [e10] at hK ⊢
    rw [if_pos (by rfl)]
    go_simp
    go_at_call 37
    refine (two_any _).mono ?_
    rintro e W1 ⟨⟨n, rfl, hn, hI⟩, hb1⟩
    simp only [NetM.val, NetM.cells, Mat.val]
    go_simp
    exact hK _ _ (hG.keep hb1) ⟨n, rfl, hn, hI⟩ (fun j u _ h => begF_keep hb1 h)
   ·have e10 := begF_get (hp 10 (by decide)) (by decide) (by decide) rfl
    have cq := hG.blk.cell 0
    have cr := hG.blk.cell 1
    simp [EngM.cells] at cq cr
    simp only [e10] at hK ⊢
    rw [if_pos (by rfl)]
    go_simp
    exact hK _ _ hG rfl (fun _ _ _ h => h)
   ·have e10 := begF_get (hp 10 (by decide)) (by decide) (by decide) rfl
    have e12 := begF_get (hp 12 (by decide)) (by decide) (by decide) rfl
    obtain ⟨n, e11, hn, hI⟩ := (show ∃ n : NetM, t 11 = n.val ∧ n.net = twoNet ∧ n.In W.heap.size W from hp 11 (by decide))
    have HC := hide (HCk.out n hn W hI hG)
    simp only [NetM.val, NetM.cells, Mat.val, EngM.val, EngM.cells] at HC e11
    simp only [e11] at hK ⊢
    simp only [e10, e12] at hK ⊢
    rw [if_pos (by rfl)]
    go_simp
    go_at_call 9
    refine HC.out.mono ?_
    rintro r W1 ⟨rfl, hb1⟩
    go_simp
    exact hK _ _ (hG.keep hb1) rfl (fun j u _ h => begF_keep hb1 h)
   ·have e10 := begF_get (hp 10 (by decide)) (by decide) (by decide) rfl
    have e13 := begF_get (hp 13 (by decide)) (by decide) (by decide) rfl
    simp only [e10, e13] at hK ⊢
    rw [if_pos (by rfl)]
    go_simp
    exact hK _ _ hG rfl (fun _ _ _ h => h)
   ·have e10 := begF_get (hp 10 (by decide)) (by decide) (by decide) rfl
    have e14 := begF_get (hp 14 (by decide)) (by decide) (by decide) rfl
    simp only [e10, e14] at hK ⊢
    rw [if_pos (by rfl)]
    go_simp
    exact hK _ _ hG rfl (fun _ _ _ h => h)
   ·have e15 := begF_get (hp 15 (by decide)) (by decide) (by decide) rfl
    simp only [e15] at hK ⊢
    rw [if_pos (by rfl)]
    go_simp
    exact hK _ _ hG rfl (fun _ _ _ h => h)
   ·have e16 := begF_get (hp 16 (by decide)) (by decide) (by decide) rfl
    simp only [e16] at hK ⊢
    rw [if_pos (by rfl)]
    go_simp
    exact hK _ _ hG rfl (fun _ _ _ h => h)
   ·have e16 := begF_get (hp 16 (by decide)) (by decide) (by decide) rfl
    have e17 := begF_get (hp 17 (by decide)) (by decide) (by decide) rfl
    have cq := hG.blk.cell 1
    simp [EngM.cells] at cq
    simp only [e16, e17] at hK ⊢
    rw [if_pos (by rfl)]
    go_simp
    exact hK _ _ hG rfl (fun _ _ _ h => h)
   ·have e16 := begF_get (hp 16 (by decide)) (by decide) (by decide) rfl
    have e18 := begF_get (hp 18 (by decide)) (by decide) (by decide) rfl
    simp only [e16, e18] at hK ⊢
    rw [if_pos (by rfl)]
    go_simp
    exact hK _ _ hG rfl (fun _ _ _ h => h)
   ·have e16 := begF_get (hp 16 (by decide)) (by decide) (by decide) rfl
    have e19 := begF_get (hp 19 (by decide)) (by decide) (by decide) rfl
    simp only [e16, e19] at hK ⊢
    rw [if_pos (by rfl)]
    go_simp
    exact hK _ _ hG rfl (fun _ _ _ h => h)
   ·have e16 := begF_get (hp 16 (by decide)) (by decide) (by decide) rfl
    have e20 := begF_get (hp 20 (by decide)) (by decide) (by decide) rfl
    simp only [e16, e20] at hK ⊢
    rw [if_pos (by rfl)]
    go_simp
    exact hK _ _ hG rfl (fun _ _ _ h => h)
   ·have e21 := begF_get (hp 21 (by decide)) (by decide) (by decide) rfl
    simp only [e21] at hK ⊢
    rw [if_pos (by rfl)]
    go_simp
    exact hK _ _ hG rfl (fun _ _ _ h => h)
   ·have e22 := begF_get (hp 22 (by decide)) (by decide) (by decide) rfl
    simp only [e22] at hK ⊢
    rw [if_pos (by rfl)]
    go_simp
    exact hK _ _ hG rfl (fun _ _ _ h => h)
   ·have e22 := begF_get (hp 22 (by decide)) (by decide) (by decide) rfl
    have e23 := begF_get (hp 23 (by decide)) (by decide) (by decide) rfl
    have cq := hG.blk.cell 0
    simp [EngM.cells] at cq
    rw [Hga.out] at cq
    simp only [e22, e23] at hK ⊢
    rw [if_pos (by rfl)]
    go_simp
    exact hK _ _ hG rfl (fun _ _ _ h => h)
   ·have e22 := begF_get (hp 22 (by decide)) (by decide) (by decide) rfl
    have e24 := begF_get (hp 24 (by decide)) (by decide) (by decide) rfl
    simp only [e22, e24] at hK ⊢
    rw [if_pos (by rfl)]
    go_simp
    exact hK _ _ hG rfl (fun _ _ _ h => h)
   ·have e22 := begF_get (hp 22 (by decide)) (by decide) (by decide) rfl
    have e25 := begF_get (hp 25 (by decide)) (by decide) (by decide) rfl
    simp only [e22, e25] at hK ⊢
    rw [if_pos (by rfl)]
    go_simp
    exact hK _ _ hG rfl (fun _ _ _ h => h)
   ·have e22 := begF_get (hp 22 (by decide)) (by decide) (by decide) rfl
    have e26 := begF_get (hp 26 (by decide)) (by decide) (by decide) rfl
    simp only [e22, e26] at hK ⊢
    rw [if_pos (by rfl)]
    go_simp
    exact hK _ _ hG rfl (fun _ _ _ h => h)
   ·have e27 := begF_get (hp 27 (by decide)) (by decide) (by decide) rfl
    simp only [e27] at hK ⊢
    rw [if_pos (by rfl)]
    go_simp
    exact hK _ _ hG rfl (fun _ _ _ h => h)
   ·have e28 := begF_get (hp 28 (by decide)) (by decide) (by decide) rfl
    simp only [e28] at hK ⊢
    rw [if_pos (by rfl)]
    go_simp
    exact hK _ _ hG rfl (fun _ _ _ h => h)
   ·have e28 := begF_get (hp 28 (by decide)) (by decide) (by decide) rfl
    have e29 := begF_get (hp 29 (by decide)) (by decide) (by decide) rfl
    have cq := hG.blk.cell 0
    simp [EngM.cells] at cq
    rw [Hga.out] at cq
    simp only [e28, e29] at hK ⊢
    rw [if_pos (by rfl)]
    go_simp
    exact hK _ _ hG rfl (fun _ _ _ h => h)
   ·have e28 := begF_get (hp 28 (by decide)) (by decide) (by decide) rfl
    have e30 := begF_get (hp 30 (by decide)) (by decide) (by decide) rfl
    simp only [e28, e30] at hK ⊢
    rw [if_pos (by rfl)]
    go_simp
    exact hK _ _ hG rfl (fun _ _ _ h => h)
   ·have e28 := begF_get (hp 28 (by decide)) (by decide) (by decide) rfl
    have e31 := begF_get (hp 31 (by decide)) (by decide) (by decide) rfl
    simp only [e28, e31] at hK ⊢
    rw [if_pos (by rfl)]
    go_simp
    exact hK _ _ hG rfl (fun _ _ _ h => h)
   ·have e28 := begF_get (hp 28 (by decide)) (by decide) (by decide) rfl
    have e32 := begF_get (hp 32 (by decide)) (by decide) (by decide) rfl
    have cz := hG.mem.mem.rs.c0 0 (show 0 < 2 by decide)
    simp only [← Hr.out, Nat.zero_mul, Nat.add_zero] at cz
    simp only [e28, e32] at hK ⊢
    rw [if_pos (by rfl)]
    go_simp
    exact hK _ _ hG rfl (fun _ _ _ h => h)
   ·have e28 := begF_get (hp 28 (by decide)) (by decide) (by decide) rfl
    simp only [e28] at hK ⊢
    rw [if_pos (by rfl)]
    go_simp
    refine hK _ _ (hG.keep ((Below.refl _ W).alloc (Nat.le_refl _) _)) ⟨W.heap.size, rfl, Blk.new W _ _⟩ (fun j u _ h => begF_keep ((Below.refl _ W).alloc (Nat.le_refl _) _) h)
   ·have e28 := begF_get (hp 28 (by decide)) (by decide) (by decide) rfl
    have e33 := begF_get (hp 33 (by decide)) (by decide) (by decide) rfl
    obtain ⟨g, e34, hg⟩ := (show ∃ g, t 34 = .slice (some ⟨g, 0, none⟩) 2 2 ∧ Blk W g #[.int .i64 0, .int .i64 1] 3 from hp 34 (by decide))
    have hii := (hG.mem.mem.rs.r 0 (show 0 < 2 by decide)).ints
    simp only [← Hr.out] at hii
    have HC := hide (sameInts_any ra (some ⟨g, 0, none⟩) 2 2 rc 2 rb ro g 0 R (litRow 0 1) W hii ⟨fun _ => rfl, fun i hi => by match i, hi with | 0, _ => exact hg.cell 0 | 1, _ => exact hg.cell 1, by unfold maxLen; omega⟩)
    rw [Hr0.out] at HC
    simp only [e34] at hK ⊢
    simp only [e28, e33] at hK ⊢
    rw [if_pos (by rfl)]
    go_simp
    go_at_call 38
    refine HC.out.mono ?_
    rintro r W1 ⟨rfl, z, rfl⟩
    go_simp
    exact hK _ _ (hG.keep (below_drewN (Below.refl _ _) z)) rfl (fun j u _ h => begF_keep (below_drewN (Below.refl _ _) z) h)
   ·have e28 := begF_get (hp 28 (by decide)) (by decide) (by decide) rfl
    have e35 := begF_get (hp 35 (by decide)) (by decide) (by decide) rfl
    simp only [e28, e35] at hK ⊢
    rw [if_pos (by rfl)]
    go_simp
    exact hK _ _ hG rfl (fun _ _ _ h => h)
   ·have e36 := begF_get (hp 36 (by decide)) (by decide) (by decide) rfl
    simp only [e36] at hK ⊢
    rw [if_pos (by rfl)]
    go_simp
    exact hK _ _ hG rfl (fun _ _ _ h => h)
  all_goals first | (rw [if_neg (by decide)]; intro b t W hb hG hp K hK) | (rw [if_pos rfl]; intro t W hG hp K hK)
  all_goals simp only [fill, Act.put, List.setIfInBounds_toArray, List.set_cons_zero, List.set_cons_succ] at hK ⊢
  ·rw [if_pos (by rfl)]
   go_simp
   go_at_call 37
   refine (two_any _).mono ?_
   rintro e W1 ⟨⟨n, rfl, hn, hI⟩, hb1⟩
   simp only [NetM.val, NetM.cells, Mat.val]
   go_simp
   refine hK _ _ (hG.keep hb1) (fun _ => ⟨n, rfl, hn, hI⟩) (fun j _ h => begE_keep hb1 h)
  ·have hb0 := hb (by kernel_rfl)
   subst hb0
   obtain ⟨hbel, hlo, m, hblk, hm⟩ := hG
   have c0 := hblk.cell 0
   have c1 := hblk.cell 1
   simp [EngM.cells] at c0 c1
   rw [if_pos (by rfl)]
   go_simp
   exact hK m.val _ ⟨hbel, hlo, m, hblk, hm⟩ (fun _ => ⟨m, rfl, hm⟩) (fun j _ h => h)
  ·rw [if_pos (by rfl)]
   go_simp
   exact hK _ _ hG rfl (fun j _ h => h)
  ·have hb0 := hb (by kernel_rfl)
   subst hb0
   obtain ⟨n, e0, hn, hI⟩ := hp 0 (by decide) rfl
   obtain ⟨m, e1, hm⟩ := hp 1 (by decide) rfl
   have e2 : t 2 = delivM.val := hp 2 (by decide)
   have HC := hide (beg_step (v := delivM) HD.out n hn m q W hI hm bareEv_in (by obtain ⟨_, _, _, hblk, _⟩ := hG; exact hblk.lt))
   simp only [NetM.val, NetM.cells, Mat.val, EngM.val, EngM.cells, EvM.val, EvM.cells] at HC e0 e1 e2
   simp only [delivM] at e2 HC
   simp only [e0, e1, e2] at hK ⊢
   rw [if_pos (by rfl)]
   go_simp
   go_at_call 5
   refine HC.out.mono ?_
   rintro r W1 ⟨⟨m1, rfl, hm1⟩, hb1⟩
   go_simp
   refine hK _ _ (hG.keep hb1) ⟨⟨_, rfl⟩, fun _ => ⟨m1, rfl, hm1⟩⟩ (fun j _ h => begE_keep hb1 h)
  ·have hb0 := hb (by kernel_rfl)
   subst hb0
   obtain ⟨h1, h2⟩ := hp 3 (by decide)
   rw [if_pos (by rfl)]
   go_simp
   exact hK _ _ hG ⟨h1, h2⟩ (fun j _ h => h)
  ·have hb0 := hb (by kernel_rfl)
   subst hb0
   obtain ⟨_, h2⟩ := hp 4 (by decide)
   obtain ⟨m, e4, hm⟩ := h2 rfl
   simp only [e4] at hK ⊢
   rw [if_pos (by rfl)]
   go_simp
   exact hK _ _ hG (fun _ => ⟨m, rfl, hm⟩) (fun j _ h => h)
  ·obtain ⟨⟨u4, e4⟩, _⟩ := hp 4 (by decide)
   simp only [e4] at hK ⊢
   rw [if_pos (by rfl)]
   go_simp
   exact hK _ _ hG rfl (fun j _ h => h)
  ·obtain ⟨m1, e5, hm1⟩ := hp 5 (by decide) rfl
   obtain ⟨hbel, hlo, m, hblk, hm⟩ := hG
   have c0 := hblk.cell 0
   have c1 := hblk.cell 1
   have f0 := hblk.frozen 0
   have f1 := hblk.frozen 1
   simp [EngM.cells] at c0 c1
   have hN : BegG w q (((newE twoNet).step twoNet tickM.ev).step twoNet delivM.ev) ((W.setCell ⟨q, 0, none⟩ (.slice m1.rs.ga m1.rs.gn m1.rs.gc)).setCell ⟨q, 1, none⟩ (.slice m1.bag.ba m1.bag.bn m1.bag.bc)) := ⟨(hbel.setCell (p := ⟨q, 0, none⟩) hlo _).setCell (p := ⟨q, 1, none⟩) hlo _, hlo, m1, (show Blk W q #[.slice m.rs.ga m.rs.gn m.rs.gc, .slice m.bag.ba m.bag.bn m.bag.bc] 31 from hblk).set2 _ _, hm1.store _ _⟩
   have HN := hide hN
   clear hN hm hblk hbel hm1
   simp only [EngM.val, EngM.cells] at e5
   simp only [e5] at hK ⊢
   rw [if_pos (by rfl)]
   go_simp
   exact hK undef _ HN.out trivial (fun j _ h => begE_store _ h)
  ·have e6 : t 6 = .int .i64 0 := hp 6 (by decide)
   simp only [e6] at hK ⊢
   rw [if_pos (by rfl)]
   go_simp
   exact hK _ _ hG rfl (fun j _ h => h)
 all_goals first | (rw [if_neg (by decide)]; intro b t W hb hG hp K hK) | (rw [if_pos rfl]; intro t W hG hp K hK)
 all_goals simp only [fill, Act.put, List.setIfInBounds_toArray, List.set_cons_zero, List.set_cons_succ] at hK ⊢
 ·rw [if_pos (by rfl)]
  go_simp
  go_at_call 37
  refine (two_any _).mono ?_
  rintro e W1 ⟨⟨n, rfl, hn, hI⟩, hb1⟩
  simp only [NetM.val, NetM.cells, Mat.val]
  go_simp
  refine hK _ _ (hG.keep hb1) (fun _ => ⟨n, rfl, hn, hI⟩) (fun j _ h => begE_keep hb1 h)
 ·have hb0 := hb (by kernel_rfl)
  subst hb0
  obtain ⟨hbel, hlo, m, hblk, hm⟩ := hG
  have c0 := hblk.cell 0
  have c1 := hblk.cell 1
  simp [EngM.cells] at c0 c1
  rw [if_pos (by rfl)]
  go_simp
  exact hK m.val _ ⟨hbel, hlo, m, hblk, hm⟩ (fun _ => ⟨m, rfl, hm⟩) (fun j _ h => h)
 ·rw [if_pos (by rfl)]
  go_simp
  exact hK _ _ hG rfl (fun j _ h => h)
 ·have hb0 := hb (by kernel_rfl)
  subst hb0
  obtain ⟨n, e0, hn, hI⟩ := hp 0 (by decide) rfl
  obtain ⟨m, e1, hm⟩ := hp 1 (by decide) rfl
  have e2 : t 2 = tickM.val := hp 2 (by decide)
  have HC := hide (beg_step (v := tickM) HT.out n hn m q W hI hm bareEv_in (by obtain ⟨_, _, _, hblk, _⟩ := hG; exact hblk.lt))
  simp only [NetM.val, NetM.cells, Mat.val, EngM.val, EngM.cells, EvM.val, EvM.cells] at HC e0 e1 e2
  simp only [tickM] at e2 HC
  simp only [e0, e1, e2] at hK ⊢
  rw [if_pos (by rfl)]
  go_simp
  go_at_call 5
  refine HC.out.mono ?_
  rintro r W1 ⟨⟨m1, rfl, hm1⟩, hb1⟩
  go_simp
  refine hK _ _ (hG.keep hb1) ⟨⟨_, rfl⟩, fun _ => ⟨m1, rfl, hm1⟩⟩ (fun j _ h => begE_keep hb1 h)
 ·have hb0 := hb (by kernel_rfl)
  subst hb0
  obtain ⟨h1, h2⟩ := hp 3 (by decide)
  rw [if_pos (by rfl)]
  go_simp
  exact hK _ _ hG ⟨h1, h2⟩ (fun j _ h => h)
 ·have hb0 := hb (by kernel_rfl)
  subst hb0
  obtain ⟨_, h2⟩ := hp 4 (by decide)
  obtain ⟨m, e4, hm⟩ := h2 rfl
  simp only [e4] at hK ⊢
  rw [if_pos (by rfl)]
  go_simp
  exact hK _ _ hG (fun _ => ⟨m, rfl, hm⟩) (fun j _ h => h)
 ·obtain ⟨⟨u4, e4⟩, _⟩ := hp 4 (by decide)
  simp only [e4] at hK ⊢
  rw [if_pos (by rfl)]
  go_simp
  exact hK _ _ hG rfl (fun j _ h => h)
 ·obtain ⟨m1, e5, hm1⟩ := hp 5 (by decide) rfl
  obtain ⟨hbel, hlo, m, hblk, hm⟩ := hG
  have c0 := hblk.cell 0
  have c1 := hblk.cell 1
  have f0 := hblk.frozen 0
  have f1 := hblk.frozen 1
  simp [EngM.cells] at c0 c1
  have hN : BegG w q ((newE twoNet).step twoNet tickM.ev) ((W.setCell ⟨q, 0, none⟩ (.slice m1.rs.ga m1.rs.gn m1.rs.gc)).setCell ⟨q, 1, none⟩ (.slice m1.bag.ba m1.bag.bn m1.bag.bc)) := ⟨(hbel.setCell (p := ⟨q, 0, none⟩) hlo _).setCell (p := ⟨q, 1, none⟩) hlo _, hlo, m1, (show Blk W q #[.slice m.rs.ga m.rs.gn m.rs.gc, .slice m.bag.ba m.bag.bn m.bag.bc] 31 from hblk).set2 _ _, hm1.store _ _⟩
  have HN := hide hN
  clear hN hm hblk hbel hm1
  simp only [EngM.val, EngM.cells] at e5
  simp only [e5] at hK ⊢
  rw [if_pos (by rfl)]
  go_simp
  exact hK undef _ HN.out trivial (fun j _ h => begE_store _ h)
 ·have e6 : t 6 = .int .i64 0 := hp 6 (by decide)
  simp only [e6] at hK ⊢
  rw [if_pos (by rfl)]
  go_simp
  exact hK _ _ hG rfl (fun j _ h => h)

end Go.Proofs.YtjhkadffaephmabGreat
