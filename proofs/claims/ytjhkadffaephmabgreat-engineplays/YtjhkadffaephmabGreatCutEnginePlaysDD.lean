/-
  Our own texts, bundled: a claim holds few files.
-/
import Derived.Test.YtjhkadffaephmabGreatCutEnginePlaysCD
import Derived.Test.YtjhkadffaephmabGreatCutEnginePlaysBD
import Derived.Test.YtjhkadffaephmabGreatCutEnginePlaysAJ
import Derived.Test.YtjhkadffaephmabGreatCutEnginePlaysAI
import Derived.Test.YtjhkadffaephmabGreatCutEnginePlaysBH
import Derived.Test.YtjhkadffaephmabGreatCutEnginePlaysCB
/-
 signpostref.CheckEngine.
-/
namespace Go.Proofs.YtjhkadffaephmabGreat
set_option maxRecDepth 100000
open Go.RowKit

/-- Is a number of so many routers, of what one router was told, none? -/
def RtrsM.noneTo (x : RtrsM) (s : Int) (i : Nat) : Bool := (List.range i).any fun r => !(x.r r).sound s
def RtrM.noneIn (r : RtrM) (s : Int) (k : Nat) : Bool := !rowIn r.rl r.R s || (List.range k).any fun q => !rowIn (r.T.t.L q) (r.T.t.Z q) s
theorem RtrM.noneIn_succ (r : RtrM) (s : Int) (k : Nat) : r.noneIn s (k + 1) = (r.noneIn s k || !rowIn (r.T.t.L k) (r.T.t.Z k) s) := by
 unfold RtrM.noneIn
 rw [List.range_succ, List.any_append, Bool.or_assoc]
 simp
theorem RtrM.sound_none (r : RtrM) (s : Int) : r.sound s = !r.noneIn s r.T.t.len := by
 unfold RtrM.sound RtrM.noneIn
 rw [Bool.not_or, Bool.not_not, List.not_any_eq_all_not]
 simp
theorem RtrsM.noneTo_succ (x : RtrsM) (s : Int) (i : Nat) : x.noneTo s (i + 1) = (x.noneTo s i || (x.r i).noneIn s (x.r i).T.t.len) := by
 unfold RtrsM.noneTo
 rw [List.range_succ, List.any_append, List.any_cons, List.any_nil, Bool.or_false, RtrM.sound_none, Bool.not_not]
theorem Net.row_five (n : Net) (l : Nat) (f : Nat → Int) (h : (l : Int) = n.nodes) : (n.row l f == 5) = !rowIn l f n.a.size := by
 unfold Net.row
 rw [if_neg (by omega)]
 show (((if rowIn l f n.a.size = false then (5 : Int) else 0)) == 5) = _
 cases rowIn l f n.a.size <;> simp
theorem RtrM.shaped_of (r : RtrM) {N : Nat} (h1 : r.rl = N) (h2 : r.T.t.len = N) (h3 : ∀ q, q < N → r.T.t.L q = 0 ∨ r.T.t.L q = N) : r.shaped (N : Int) = true := by
 unfold RtrM.shaped
 simp only [Bool.and_eq_true, beq_iff_eq, List.all_eq_true, List.mem_range]
 refine ⟨⟨by rw [h1], by rw [h2]⟩, fun q hq => ?_⟩
 rcases h3 q (by omega) with e | e <;> simp [e]
theorem RtrM.not_shaped (r : RtrM) {N : Nat} (h : r.rl ≠ N ∨ r.T.t.len ≠ N ∨ ∃ q, q < r.T.t.len ∧ r.T.t.L q ≠ 0 ∧ r.T.t.L q ≠ N) : r.shaped (N : Int) = false := by
 cases hs : r.shaped (N : Int) with
 | false => rfl
 | true =>
  unfold RtrM.shaped at hs
  simp only [Bool.and_eq_true, beq_iff_eq, List.all_eq_true, List.mem_range] at hs
  obtain ⟨⟨h1, h2⟩, h3⟩ := hs
  rcases h with h | h | ⟨q, hq, h4, h5⟩
  ·exact absurd (by omega) h
  ·exact absurd (by omega) h
  ·have := h3 q hq
   simp at this
   omega
section
variable {x : EngM} {n : Net} {N : Nat}
theorem EngM.err_one (hc : n.check = 0) (h : (x.rs.gn : Int) ≠ n.nodes ∨ ∃ i, i < x.rs.gn ∧ (x.rs.r i).shaped n.nodes = false) : x.err n = 1 := by
 have h1 : x.rs.err n = 1 := by
  unfold RtrsM.err
  rw [if_pos]
  rcases h with h | ⟨i, hi, h⟩
  ·exact Or.inl h
  ·refine Or.inr ?_
   rw [List.any_eq_true]
   exact ⟨i, by simpa using hi, by rw [h]; rfl⟩
 unfold EngM.err
 rw [if_neg (by omega), h1, if_pos (by decide)]
theorem EngM.err_bag (hc : n.check = 0) (hg : (x.rs.gn : Int) = n.nodes) (hs : ∀ i, i < x.rs.gn → (x.rs.r i).shaped n.nodes = true) : x.err n = if x.rs.noneTo n.a.size x.rs.gn = true then 5 else x.bag.err n := by
 have h1 : ((List.range x.rs.gn).any fun i => !(x.rs.r i).shaped n.nodes) = false := by
  rw [List.any_eq_false]
  intro i hi
  rw [hs i (by simpa using hi)]
  decide
 have h2 : ¬ ((x.rs.gn : Int) ≠ n.nodes ∨ ((List.range x.rs.gn).any fun i => !(x.rs.r i).shaped n.nodes) = true) := by
  rintro (h2 | h2)
  ·exact h2 hg
  ·rw [h1] at h2; cases h2
 have h3 : ¬ n.check ≠ 0 := by omega
 unfold EngM.err RtrsM.err
 rw [if_neg h3, if_neg h2]
 show (if (if x.rs.noneTo n.a.size x.rs.gn = true then (5 : Int) else 0) ≠ 0 then (if x.rs.noneTo n.a.size x.rs.gn = true then (5 : Int) else 0) else x.bag.err n) = _
 split <;> simp
end
/-- The boxes of CheckEngine. -/
structure ChG (w : World) (n : NetM) (x : EngM) (W : World) : Prop where
 below : Below w.heap.size w W
 bn : Blk W w.heap.size n.cells 27
 bx : Blk W (w.heap.size + 1) x.cells 31
theorem ChG.keep {w : World} {n : NetM} {x : EngM} {W W' : World} (h : ChG w n x W) (hb : Below W.heap.size W W') : ChG w n x W' := ⟨h.below.trans (hb.mono h.below.size), h.bn.below hb h.bn.lt, h.bx.below hb h.bx.lt⟩

set_option maxHeartbeats 2000000 in
theorem refChk_no (n : NetM) (x : EngM) (w : World) (h : n.In w.heap.size w) (hc : n.net.check ≠ 0) :
  Calls Tryz.prog 8 #[n.val, x.val] w fun e w' => e = .returned (.int .i64 (x.err n.net)) ∧ Below w.heap.size w w' := by
 obtain ⟨W0, hW0⟩ : ∃ W0, W0 = (w.alloc (.cells n.cells 27)).alloc (.cells x.cells 31) := ⟨_, rfl⟩
 have hB0 : Below w.heap.size w W0 := by rw [hW0]; exact ((Below.refl _ w).alloc (Nat.le_refl _) _).alloc (by simp) _
 have HC := hide (refNet_any n W0 (h.grown hB0))
 have HB0 := hide hB0
 have Herr : Hid (x.err n.net = n.net.check) := hide (by unfold EngM.err; rw [if_pos hc])
 rw [hW0] at HC
 have HW0 := hide hW0
 simp only [NetM.val, NetM.cells, Mat.val, EngM.val, EngM.cells] at HC HW0 ⊢
 have hc' : (n.net.check == 0) = false := by simpa using hc
 clear h hB0 hW0
 go_enter Tryz.func8, Tryz.ntmps8
 go_wp2_with fail
 go_at_call 7
 refine HC.out.mono ?_
 rw [← HW0.out]
 rintro r W1 ⟨rfl, hb1⟩
 have HF := hide (And.intro Herr.out (HB0.out.trans (hb1.mono HB0.out.size)))
 generalize n.net.check = er at *
 clear hb1 HC Herr
 go_wp2
 go_ret
 exact ⟨by rw [HF.out.1]; rfl, HF.out.2⟩

set_option maxHeartbeats 16000000 in
theorem refChk_ok (n : NetM) (x : EngM) (N : Nat) (w : World) (h : n.In w.heap.size w) (hx : x.In w.heap.size w) (hc : n.net.check = 0) (hN : n.nodes = N) :
  Calls Tryz.prog 8 #[n.val, x.val] w fun e w' => e = .returned (.int .i64 (x.err n.net)) ∧ Below w.heap.size w w' := by
 obtain ⟨hN0, hN6, hNN, hnn⟩ := nodes_six hc hN
 have hs2 : 2 ≤ n.a.size := (Net.good_of_check hc).law.good.lo
 have hs24 : n.a.size ≤ 24 := (Net.good_of_check hc).law.good.hi
 obtain ⟨W0, hW0⟩ : ∃ W0, W0 = (w.alloc (.cells n.cells 27)).alloc (.cells x.cells 31) := ⟨_, rfl⟩
 have hB0 : Below w.heap.size w W0 := by rw [hW0]; exact ((Below.refl _ w).alloc (Nat.le_refl _) _).alloc (by simp) _
 have HG0 : Hid (ChG w n x W0) := hide ⟨hB0, by rw [hW0]; exact (Blk.new w _ _).alloc _, by rw [hW0]; exact Blk.new' (by simp)⟩
 have HC := hide (refNet_any n W0 (h.grown hB0))
 rw [hc] at HC
 have HRw := hide (fun a l c b o f (W : World) hi hb => rowOf_any n a l c b o f W hi hb hs2 hs24)
 have HIs := hide (fun (i : Int) (W : World) => isNode_any n i W (by omega) (by omega))
 have hnc : n.cells = #[.int .i64 n.a.size, .slice n.a.B.ga n.a.B.t.len n.a.B.cap, .slice n.a.E.ga n.a.E.t.len n.a.E.cap, .int .i64 N, .slice n.la n.ln n.lc] := by simp only [NetM.cells, Mat.val, hN]
 have hxc : x.cells = #[.slice x.rs.ga x.rs.gn x.rs.gc, .slice x.bag.ba x.bag.bn x.bag.bc] := rfl
 have hgl := hx.rs.len
 have hbl := hx.bag.len
 unfold maxLen at hgl hbl
 rw [hnc, hxc] at hW0
 simp only [NetM.val, EngM.val, hnc, hxc, hN] at HC HRw HIs ⊢
 rw [hW0] at HC
 have HW0 := hide hW0
 have Hx := hide hx
 have Hc := hide hc
 have Hnn := hide hnn
 have Hnc := hide hnc
 have Hxc := hide hxc
 clear h hx hc hN hNN hnn hB0 hW0 hnc hxc
 go_enter Tryz.func8, Tryz.ntmps8
 go_wp2_with fail
 go_at_call 7
 refine HC.out.mono ?_
 rw [← HW0.out]
 rintro r W1 ⟨rfl, hb1⟩
 have HG1 := hide (HG0.out.keep hb1)
 clear hb1 HC HG0 HW0
 have n0 := HG1.out.bn.cell 0
 have n1 := HG1.out.bn.cell 1
 have n2 := HG1.out.bn.cell 2
 have n3 := HG1.out.bn.cell 3
 have n4 := HG1.out.bn.cell 4
 rw [Hnc.out] at n0 n1 n2 n3 n4
 simp at n0 n1 n2 n3 n4
 have x0 := HG1.out.bx.cell 0
 have x1 := HG1.out.bx.cell 1
 rw [Hxc.out] at x0 x1
 simp at x0 x1
 by_cases hgn : x.rs.gn = N
 rotate_left
 ·have hne : ((x.rs.gn : Int) == (N : Int)) = false := by simp; omega
  have Hf : Hid (x.err n.net = 1) := hide (EngM.err_one Hc.out (Or.inl (by rw [Hnn.out]; omega)))
  have HB := hide HG1.out.below
  clear hgn
  go_wp2
  go_ret
  exact ⟨by rw [Hf.out]; rfl, HB.out⟩
 have Hgn := hide hgn
 rw [hgn] at x0
 have Hga : Hid (x.rs.ga = some ⟨x.rs.gb, x.rs.go, none⟩) := hide (Hx.out.rs.ga (by omega))
 rw [Hga.out] at x0
 go_wp2_with fail
 clear n0 n1 n2 n3 n4 x0 x1
 go_loopw [6, 7, 8, 9] (fun b q _ _ wr => ∃ i : Nat, i ≤ N ∧ q = .int .i64 i ∧ b = .bool (x.rs.noneTo n.a.size i) ∧ Hid (∀ r, r < i → (x.rs.r r).shaped (N : Int) = true) ∧ Hid (ChG w n x wr)) (fun _ q _ _ _ => N - (intOf q).toNat)
 case atStart => exact ⟨0, Nat.zero_le _, rfl, rfl, hide (fun r hr => absurd hr (Nat.not_lt_zero _)), HG1⟩
 case round =>
  obtain ⟨i, hi, hq, hb, Hsh, HGr⟩ := hrel
  subst hq
  subst hb
  clear HG1
  have n0 := HGr.out.bn.cell 0
  have n1 := HGr.out.bn.cell 1
  have n2 := HGr.out.bn.cell 2
  have n3 := HGr.out.bn.cell 3
  have n4 := HGr.out.bn.cell 4
  rw [Hnc.out] at n0 n1 n2 n3 n4
  simp at n0 n1 n2 n3 n4
  have x0 := HGr.out.bx.cell 0
  have x1 := HGr.out.bx.cell 1
  rw [Hxc.out] at x0 x1
  simp at x0 x1
  rw [Hgn.out, Hga.out] at x0
  by_cases hlt : i < N
  ·have hii : (i : Int) < (N : Int) := by omega
   have hig : i < x.rs.gn := by rw [Hgn.out]; exact hlt
   have hxr := Hx.out.below HGr.out.below (Nat.le_refl _)
   have hri := hxr.rs.r i hig
   have c0 := hxr.rs.c0 i hig
   have c1 := hxr.rs.c1 i hig
   obtain ⟨rr, hrr⟩ : ∃ rr, rr = x.rs.r i := ⟨_, rfl⟩
   have hTl := hri.T.len
   have hrl := hri.ints.len
   unfold maxLen at hTl hrl
   rw [← hrr] at c0 c1 hTl hrl hri
   have Hrr := hide hrr
   have Hri := hide hri
   obtain ⟨nb, hnb⟩ : ∃ nb, nb = x.rs.noneTo n.a.size i := ⟨_, rfl⟩
   rw [← hnb]
   have Hnb := hide hnb
   have Hig := hide hig
   clear hig hxr hri hrr hnb
   have Hbad : Hid ((rr.rl ≠ N ∨ rr.T.t.len ≠ N ∨ ∃ q, q < rr.T.t.len ∧ rr.T.t.L q ≠ 0 ∧ rr.T.t.L q ≠ N) → x.err n.net = 1) := hide (fun hh => EngM.err_one Hc.out (Or.inr ⟨i, Hig.out, by rw [Hnn.out, ← Hrr.out]; exact rr.not_shaped hh⟩))
   have n0a : ∀ o, (wr.alloc o).cell? ⟨w.heap.size, 0, none⟩ = some (.int .i64 n.a.size) := fun o => by have := (HGr.out.bn.alloc o).cell 0; rw [Hnc.out] at this; simpa using this
   have n1a : ∀ o, (wr.alloc o).cell? ⟨w.heap.size, 1, none⟩ = some (.slice n.a.B.ga n.a.B.t.len n.a.B.cap) := fun o => by have := (HGr.out.bn.alloc o).cell 1; rw [Hnc.out] at this; simpa using this
   have n2a : ∀ o, (wr.alloc o).cell? ⟨w.heap.size, 2, none⟩ = some (.slice n.a.E.ga n.a.E.t.len n.a.E.cap) := fun o => by have := (HGr.out.bn.alloc o).cell 2; rw [Hnc.out] at this; simpa using this
   have n3a : ∀ o, (wr.alloc o).cell? ⟨w.heap.size, 3, none⟩ = some (.int .i64 (N : Int)) := fun o => by have := (HGr.out.bn.alloc o).cell 3; rw [Hnc.out] at this; simpa using this
   have n4a : ∀ o, (wr.alloc o).cell? ⟨w.heap.size, 4, none⟩ = some (.slice n.la n.ln n.lc) := fun o => by have := (HGr.out.bn.alloc o).cell 4; rw [Hnc.out] at this; simpa using this
   by_cases h1 : rr.T.t.len = N
   rotate_left
   ·have hne : ((rr.T.t.len : Int) == (N : Int)) = false := by simp; omega
    have Hf := hide (Hbad.out (Or.inr (Or.inl h1)))
    have HB := hide (HGr.out.below)
    have HBx : Hid (∀ o, Below w.heap.size w (wr.alloc o)) := hide (fun o => HB.out.alloc HB.out.size o)
    clear h1 Hbad
    go_wp2
    go_ret
    exact ⟨by rw [Hf.out]; rfl, HBx.out _⟩
   by_cases h2 : rr.rl = N
   rotate_left
   ·have hne : ((rr.rl : Int) == (N : Int)) = false := by simp; omega
    have Hf := hide (Hbad.out (Or.inl h2))
    have HBx : Hid (∀ o, Below w.heap.size w (wr.alloc o)) := hide (fun o => HGr.out.below.alloc HGr.out.below.size o)
    rw [h1] at c1
    clear h1 h2 Hbad
    go_wp2
    go_ret
    exact ⟨by rw [Hf.out]; rfl, HBx.out _⟩
   rw [h1] at c1
   rw [h2] at c0
   have H1 := hide h1
   have H2 := hide h2
   obtain ⟨W3, hW3⟩ : ∃ W3, W3 = wr.alloc (.cells #[.slice rr.ra N rr.rc, .slice rr.T.ga N rr.T.cap] 59) := ⟨_, rfl⟩
   have hb3 : Below wr.heap.size wr W3 := by rw [hW3]; exact (Below.refl _ wr).alloc (Nat.le_refl _) _
   have HG3 := hide (HGr.out.keep hb3)
   obtain ⟨q8, hq8⟩ : ∃ q8, q8 = wr.heap.size := ⟨_, rfl⟩
   have Hb3 : Hid (Blk W3 q8 #[.slice rr.ra N rr.rc, .slice rr.T.ga N rr.T.cap] 59) := hide (by rw [hW3]; exact Blk.new' hq8)
   have HI0 : Hid (∃ W4, Below W3.heap.size W3 W4 ∧ ChG w n x W4) := hide ⟨W3, Below.refl _ _, HG3.out⟩
   have Hri3 := hide (Hri.out.below hb3 HGr.out.below.size)
   have HCr := hide (HRw.out rr.ra N rr.rc rr.rb rr.ro rr.R W3 (by have := Hri3.out.ints; rwa [H2.out] at this) (fun h0 => Nat.lt_of_lt_of_le (Hri3.out.lt (by rw [H2.out]; exact h0)) HG3.out.below.size))
   have Hfive : Hid ((n.net.row N rr.R == 5) = !rowIn N rr.R n.a.size) := hide (n.net.row_five N rr.R Hnn.out.symm)
   have HW3 := hide hW3
   have Hq8 := hide hq8
   clear h1 h2 hb3 hW3 hq8 hTl hrl
   rw [HW3.out] at HCr
   cases nb with
   | true =>
    have Hst : Hid (true = (x.rs.noneTo n.a.size i || rr.noneIn n.a.size 0)) := hide (by rw [← Hnb.out]; rfl)
    go_wp2_with fail
    rw [← HW3.out, ← Hq8.out]
    have Hb34 : Hid (Below W3.heap.size W3 W3) := hide (Below.refl _ _)
    clear n0a n1a n2a n3a n4a c0 c1 x0 x1 n0 n1 n2 n3 n4 HCr Hfive HGr
    go_loopw [6, 9] (fun b q wr => ∃ k : Nat, k ≤ N ∧ q = .int .i64 k ∧ b = .bool (x.rs.noneTo n.a.size i || rr.noneIn n.a.size k) ∧ Hid (∀ q, q < k → rr.T.t.L q = 0 ∨ rr.T.t.L q = N) ∧ Hid (Below W3.heap.size W3 wr)) (fun _ q _ => N - (intOf q).toNat)
    case atStart => exact ⟨0, Nat.zero_le _, rfl, by rw [← Hst.out], hide (fun q hq => absurd hq (Nat.not_lt_zero _)), Hb34⟩
    case round =>
     clear Hst Hb34
     obtain ⟨k, hk, hq, hb, HL, HBr⟩ := hrel
     subst hq
     subst hb
     have HGk := hide (HG3.out.keep HBr.out)
     have n0 := HGk.out.bn.cell 0
     have n1 := HGk.out.bn.cell 1
     have n2 := HGk.out.bn.cell 2
     have n3 := HGk.out.bn.cell 3
     have n4 := HGk.out.bn.cell 4
     rw [Hnc.out] at n0 n1 n2 n3 n4
     simp at n0 n1 n2 n3 n4
     by_cases hkl : k < N
     ·have hki : (k : Int) < (N : Int) := by omega
      have Hin : Hid (∀ W, Below wr.heap.size wr W → rr.In w.heap.size W) := hide (fun W hb => Hri3.out.below (HBr.out.trans (hb.mono HBr.out.size)) HG3.out.below.size)
      have HTga : Hid (rr.T.ga = some ⟨rr.T.gb, rr.T.go, none⟩) := hide (Hri3.out.T.ga (by rw [H1.out]; exact hN0))
      have Hbk : Hid (Blk wr q8 #[.slice rr.ra N rr.rc, .slice (some ⟨rr.T.gb, rr.T.go, none⟩) N rr.T.cap] 59) := hide (by have := Hb3.out.below HBr.out Hb3.out.lt; rwa [HTga.out] at this)
      obtain ⟨lk, hlk⟩ : ∃ lk, lk = rr.T.t.L k := ⟨_, rfl⟩
      have Hlk := hide hlk
      have Hrow : Hid (∀ W, Below wr.heap.size wr W → W.cell? ⟨rr.T.gb, rr.T.go + k, none⟩ = some (.slice (rr.T.A k) lk (rr.T.C k))) := hide (fun W hb => by rw [Hlk.out]; exact (Hin.out W hb).T.row k (by rw [H1.out]; exact hkl))
      have hlm := Hri3.out.T.lens k (by rw [H1.out]; exact hkl)
      unfold maxLen at hlm
      rw [← hlk] at hlm
      obtain ⟨fb, hfb⟩ : ∃ fb, fb = (x.rs.noneTo n.a.size i || rr.noneIn n.a.size k) := ⟨_, rfl⟩
      have Hnext : Hid ((x.rs.noneTo n.a.size i || rr.noneIn n.a.size (k + 1)) = (fb || !rowIn lk (rr.T.t.Z k) n.a.size)) := hide (by rw [RtrM.noneIn_succ, ← Bool.or_assoc, ← hfb, hlk])
      rw [← hfb]
      clear hfb hlk
      by_cases hl0 : lk = 0
      ·subst hl0
       have HLn : Hid (∀ q, q < k + 1 → rr.T.t.L q = 0 ∨ rr.T.t.L q = N) := hide (fun q hq => by
        by_cases e : q = k
        ·rw [e]; exact Or.inl Hlk.out.symm
        ·exact HL.out q (by omega))
       have Hz : Hid ((x.rs.noneTo n.a.size i || rr.noneIn n.a.size (k + 1)) = fb) := hide (by rw [Hnext.out]; simp [rowIn])
       clear Hlk HL Hnext
       go_wp2_with fail
       clear n0 n1 n2 n3 n4
       refine wp_region_only (fun W => Below wr.heap.size wr W) (valsE [.pointer (some ⟨q8, 1, none⟩), .slice (some ⟨rr.T.gb, rr.T.go, none⟩) N rr.T.cap, .int .i64 (k : Int), .pointer (some ⟨rr.T.gb, rr.T.go + k, none⟩), .slice (rr.T.A k) 0 (rr.T.C k), .int .i64 0, .bool false, .bool false, undef, undef, undef, undef, undef, undef, undef, undef, undef, .bool false]) (by kernel_rfl) (by kernel_rfl) (by kernel_rfl) (⟨rfl, rfl, rfl, Nat.le_refl _, fun _ _ => rfl⟩) ⟨?_, ?_, ?_, ?_, ?_, ?_, ?_, ?_, ?_, ?_, ?_, ?_, ?_, ?_, ?_, ?_, ?_, ?_, trivial⟩ ?_
       rotate_right
       ·intro t W hG hE
        have e17 := valsE_get (hE 17 (by decide)) rfl
        have HG' := hide hG
        clear hE hG
        simp only [fill, Act.put, List.setIfInBounds_toArray, List.set_cons_zero, List.set_cons_succ, e17]
        clear e17
        obtain ⟨wr2, hwr2⟩ : ∃ wr2, wr2 = W := ⟨_, rfl⟩
        rw [← hwr2] at HG' ⊢
        clear hwr2
        have HBr2 := hide (HBr.out.trans (HG'.out.mono HBr.out.size))
        have HGk2 := hide (HGk.out.keep HG'.out)
        have Hbk2 := hide (Hbk.out.below HG'.out Hbk.out.lt)
        have Hrow2 := hide (fun W (hb : Below wr2.heap.size wr2 W) => Hrow.out W (HG'.out.trans (hb.mono HG'.out.size)))
        clear HG'
        go_wp2_with fail
        clear HBr HGk Hbk Hrow
        cases fb with
        | true =>
         have Hn : Hid ((x.rs.noneTo n.a.size i || rr.noneIn n.a.size (k + 1)) = true) := hide (by rw [Hz.out])
         refine wp_region_last 20 _ (fun W => Below wr2.heap.size wr2 W) (valsE [.bool true, .bool true, undef, undef, undef, undef, undef, undef, undef, undef, undef, undef, undef, undef, undef, undef, undef, undef, undef, .bool true]) (fun v W => v = .bool true ∧ Below wr2.heap.size wr2 W) (fun _ _ _ => True) (by kernel_rfl) (by kernel_rfl) (by kernel_rfl) (by kernel_rfl) (by kernel_rfl) rfl (show Below wr2.heap.size wr2 wr2.drew from ⟨rfl, rfl, rfl, Nat.le_refl _, fun _ _ => rfl⟩) ⟨?_, ?_, ?_, ?_, ?_, ?_, ?_, ?_, ?_, ?_, ?_, ?_, ?_, ?_, ?_, ?_, ?_, ?_, ?_, ?_, trivial⟩ ?_ trivial ?_
         rotate_right
         ·intro t W hG _
          have e20 := hG.1
          have HG' := hide hG.2
          clear hG
          simp only [fill, Act.put, List.setIfInBounds_toArray, List.set_cons_zero, List.set_cons_succ, e20]
          clear e20
          have HB4 := hide (HBr2.out.trans (HG'.out.mono HBr2.out.size))
          clear HG'
          go_wp2
          go_roundw
          case rel =>
           first
           | exact ⟨k + 1, by omega, by go_num, by rw [Hn.out], HLn, HB4⟩
           | ((try rw [← HTga.out]); (repeat apply Exists.intro); refine ⟨?_, rfl⟩; exact ⟨k + 1, by omega, by go_num, by rw [Hn.out], HLn, HB4⟩)
          case measure => simp [intOf]; omega
         rotate_right
         ·intro t W hG hE _ K hK
          have e19 := valsE_get (hE 19 (by omega)) rfl
          simp only [fill, Act.put, List.setIfInBounds_toArray, List.set_cons_zero, List.set_cons_succ, e19] at hK ⊢
          rw [if_pos (by rfl)]
          go_simp
          exact hK _ _ ⟨rfl, hG⟩
         all_goals intro t W hG hp ht K hK
         all_goals have h20 : t 20 = .bool true := ht 20 (by decide)
         all_goals clear ht
         all_goals simp only [fill, Act.put, List.setIfInBounds_toArray, List.set_cons_zero, List.set_cons_succ, h20] at hK ⊢
         all_goals clear h20
         ·rw [if_pos (by rfl)]
          go_simp
          exact hK _ _ hG rfl (fun _ _ _ h => h)
         ·have e0 := valsE_get (hp 0 (by decide)) rfl
          simp only [e0] at hK ⊢
          rw [if_pos (by rfl)]
          go_simp
          exact hK _ _ hG rfl (fun _ _ _ h => h)
         ·have e1 := valsE_get (hp 1 (by decide)) rfl
          simp only [e1] at hK ⊢
          rw [if_neg (by intro hh; exact absurd (show false = true from hh) (by decide))]
          exact hK undef _ hG rfl (fun _ _ _ h => h)
         ·have e1 := valsE_get (hp 1 (by decide)) rfl
          simp only [e1] at hK ⊢
          rw [if_neg (by intro hh; exact absurd (show false = true from hh) (by decide))]
          exact hK undef _ hG rfl (fun _ _ _ h => h)
         ·have e1 := valsE_get (hp 1 (by decide)) rfl
          simp only [e1] at hK ⊢
          rw [if_neg (by intro hh; exact absurd (show false = true from hh) (by decide))]
          exact hK undef _ hG rfl (fun _ _ _ h => h)
         ·have e1 := valsE_get (hp 1 (by decide)) rfl
          simp only [e1] at hK ⊢
          rw [if_neg (by intro hh; exact absurd (show false = true from hh) (by decide))]
          exact hK undef _ hG rfl (fun _ _ _ h => h)
         ·have e1 := valsE_get (hp 1 (by decide)) rfl
          simp only [e1] at hK ⊢
          rw [if_neg (by intro hh; exact absurd (show false = true from hh) (by decide))]
          exact hK undef _ hG rfl (fun _ _ _ h => h)
         ·have e1 := valsE_get (hp 1 (by decide)) rfl
          simp only [e1] at hK ⊢
          rw [if_neg (by intro hh; exact absurd (show false = true from hh) (by decide))]
          exact hK undef _ hG rfl (fun _ _ _ h => h)
         ·have e1 := valsE_get (hp 1 (by decide)) rfl
          simp only [e1] at hK ⊢
          rw [if_neg (by intro hh; exact absurd (show false = true from hh) (by decide))]
          exact hK undef _ hG rfl (fun _ _ _ h => h)
         ·have e1 := valsE_get (hp 1 (by decide)) rfl
          simp only [e1] at hK ⊢
          rw [if_neg (by intro hh; exact absurd (show false = true from hh) (by decide))]
          exact hK undef _ hG rfl (fun _ _ _ h => h)
         ·have e9 := valsE_get (hp 9 (by decide)) rfl
          simp only [e9] at hK ⊢
          rw [if_neg (by intro hh; exact absurd (show false = true from hh) (by decide))]
          exact hK undef _ hG rfl (fun _ _ _ h => h)
         ·have e9 := valsE_get (hp 9 (by decide)) rfl
          simp only [e9] at hK ⊢
          rw [if_neg (by intro hh; exact absurd (show false = true from hh) (by decide))]
          exact hK undef _ hG rfl (fun _ _ _ h => h)
         ·have e9 := valsE_get (hp 9 (by decide)) rfl
          simp only [e9] at hK ⊢
          rw [if_neg (by intro hh; exact absurd (show false = true from hh) (by decide))]
          exact hK undef _ hG rfl (fun _ _ _ h => h)
         ·have e9 := valsE_get (hp 9 (by decide)) rfl
          simp only [e9] at hK ⊢
          rw [if_neg (by intro hh; exact absurd (show false = true from hh) (by decide))]
          exact hK undef _ hG rfl (fun _ _ _ h => h)
         ·have e9 := valsE_get (hp 9 (by decide)) rfl
          simp only [e9] at hK ⊢
          rw [if_neg (by intro hh; exact absurd (show false = true from hh) (by decide))]
          exact hK undef _ hG rfl (fun _ _ _ h => h)
         ·have e9 := valsE_get (hp 9 (by decide)) rfl
          simp only [e9] at hK ⊢
          rw [if_neg (by intro hh; exact absurd (show false = true from hh) (by decide))]
          exact hK undef _ hG rfl (fun _ _ _ h => h)
         ·have e9 := valsE_get (hp 9 (by decide)) rfl
          simp only [e9] at hK ⊢
          rw [if_neg (by intro hh; exact absurd (show false = true from hh) (by decide))]
          exact hK undef _ hG rfl (fun _ _ _ h => h)
         ·have e9 := valsE_get (hp 9 (by decide)) rfl
          simp only [e9] at hK ⊢
          rw [if_neg (by intro hh; exact absurd (show false = true from hh) (by decide))]
          exact hK undef _ hG rfl (fun _ _ _ h => h)
         ·have e1 := valsE_get (hp 1 (by decide)) rfl
          simp only [e1] at hK ⊢
          rw [if_neg (by intro hh; exact absurd (show false = true from hh) (by decide))]
          exact hK undef _ hG rfl (fun _ _ _ h => h)
         ·have e1 := valsE_get (hp 1 (by decide)) rfl
          have e18 := valsE_get (hp 18 (by decide)) rfl
          simp only [e1, e18] at hK ⊢
          rw [if_pos (by rfl)]
          go_simp
          exact hK _ _ hG rfl (fun _ _ _ h => h)
        | false =>
         have Hn : Hid ((x.rs.noneTo n.a.size i || rr.noneIn n.a.size (k + 1)) = false) := hide (by rw [Hz.out])
         refine wp_region_last 20 _ (fun W => Below wr2.heap.size wr2 W) (valsE [.bool false, .bool false, .pointer (some ⟨q8, 1, none⟩), .slice (some ⟨rr.T.gb, rr.T.go, none⟩) N rr.T.cap, .int .i64 (k : Int), .pointer (some ⟨rr.T.gb, rr.T.go + k, none⟩), .slice (rr.T.A k) 0 (rr.T.C k), .int .i64 0, .bool false, .bool false, undef, undef, undef, undef, undef, undef, undef, undef, .bool false, .bool false]) (fun v W => v = .bool false ∧ Below wr2.heap.size wr2 W) (fun _ _ _ => True) (by kernel_rfl) (by kernel_rfl) (by kernel_rfl) (by kernel_rfl) (by kernel_rfl) rfl (show Below wr2.heap.size wr2 wr2.drew from ⟨rfl, rfl, rfl, Nat.le_refl _, fun _ _ => rfl⟩) ⟨?_, ?_, ?_, ?_, ?_, ?_, ?_, ?_, ?_, ?_, ?_, ?_, ?_, ?_, ?_, ?_, ?_, ?_, ?_, ?_, trivial⟩ ?_ trivial ?_
         rotate_right
         ·intro t W hG _
          have e20 := hG.1
          have HG' := hide hG.2
          clear hG
          simp only [fill, Act.put, List.setIfInBounds_toArray, List.set_cons_zero, List.set_cons_succ, e20]
          clear e20
          have HB4 := hide (HBr2.out.trans (HG'.out.mono HBr2.out.size))
          clear HG'
          go_wp2
          go_roundw
          case rel =>
           first
           | exact ⟨k + 1, by omega, by go_num, by rw [Hn.out], HLn, HB4⟩
           | ((try rw [← HTga.out]); (repeat apply Exists.intro); refine ⟨?_, rfl⟩; exact ⟨k + 1, by omega, by go_num, by rw [Hn.out], HLn, HB4⟩)
          case measure => simp [intOf]; omega
         rotate_right
         ·intro t W hG hE _ K hK
          have e19 := valsE_get (hE 19 (by omega)) rfl
          simp only [fill, Act.put, List.setIfInBounds_toArray, List.set_cons_zero, List.set_cons_succ, e19] at hK ⊢
          rw [if_pos (by rfl)]
          go_simp
          exact hK _ _ ⟨rfl, hG⟩
         all_goals intro t W hG hp ht K hK
         all_goals have h20 : t 20 = .bool false := ht 20 (by decide)
         all_goals clear ht
         all_goals simp only [fill, Act.put, List.setIfInBounds_toArray, List.set_cons_zero, List.set_cons_succ, h20] at hK ⊢
         all_goals clear h20
         ·rw [if_pos (by rfl)]
          go_simp
          exact hK _ _ hG rfl (fun _ _ _ h => h)
         ·have e0 := valsE_get (hp 0 (by decide)) rfl
          simp only [e0] at hK ⊢
          rw [if_pos (by rfl)]
          go_simp
          exact hK _ _ hG rfl (fun _ _ _ h => h)
         ·have e1 := valsE_get (hp 1 (by decide)) rfl
          simp only [e1] at hK ⊢
          rw [if_pos (by rfl)]
          go_simp
          exact hK _ _ hG rfl (fun _ _ _ h => h)
         ·have e1 := valsE_get (hp 1 (by decide)) rfl
          have e2 := valsE_get (hp 2 (by decide)) rfl
          have cx := (Hbk2.out.below hG Hbk2.out.lt).cell 1
          simp at cx
          simp only [e1, e2] at hK ⊢
          rw [if_pos (by rfl)]
          go_simp
          exact hK _ _ hG rfl (fun _ _ _ h => h)
         ·have e1 := valsE_get (hp 1 (by decide)) rfl
          simp only [e1] at hK ⊢
          rw [if_pos (by rfl)]
          go_simp
          exact hK _ _ hG rfl (fun _ _ _ h => h)
         ·have e1 := valsE_get (hp 1 (by decide)) rfl
          have e3 := valsE_get (hp 3 (by decide)) rfl
          have e4 := valsE_get (hp 4 (by decide)) rfl
          simp only [e1, e3, e4] at hK ⊢
          rw [if_pos (by rfl)]
          go_simp
          exact hK _ _ hG rfl (fun _ _ _ h => h)
         ·have e1 := valsE_get (hp 1 (by decide)) rfl
          have e5 := valsE_get (hp 5 (by decide)) rfl
          have cx := Hrow2.out W hG
          simp only [e1, e5] at hK ⊢
          rw [if_pos (by rfl)]
          go_simp
          exact hK _ _ hG rfl (fun _ _ _ h => h)
         ·have e1 := valsE_get (hp 1 (by decide)) rfl
          have e6 := valsE_get (hp 6 (by decide)) rfl
          simp only [e1, e6] at hK ⊢
          rw [if_pos (by rfl)]
          go_simp
          exact hK _ _ hG rfl (fun _ _ _ h => h)
         ·have e1 := valsE_get (hp 1 (by decide)) rfl
          have e7 := valsE_get (hp 7 (by decide)) rfl
          simp only [e1, e7] at hK ⊢
          rw [if_pos (by rfl)]
          go_simp
          exact hK _ _ hG rfl (fun _ _ _ h => h)
         ·have e1 := valsE_get (hp 1 (by decide)) rfl
          have e8 := valsE_get (hp 8 (by decide)) rfl
          simp only [e1, e8] at hK ⊢
          rw [if_pos (by rfl)]
          go_simp
          exact hK _ _ hG rfl (fun _ _ _ h => h)
         ·have e9 := valsE_get (hp 9 (by decide)) rfl
          simp only [e9] at hK ⊢
          rw [if_neg (by intro hh; exact absurd (show false = true from hh) (by decide))]
          exact hK undef _ hG rfl (fun _ _ _ h => h)
         ·have e9 := valsE_get (hp 9 (by decide)) rfl
          simp only [e9] at hK ⊢
          rw [if_neg (by intro hh; exact absurd (show false = true from hh) (by decide))]
          exact hK undef _ hG rfl (fun _ _ _ h => h)
         ·have e9 := valsE_get (hp 9 (by decide)) rfl
          simp only [e9] at hK ⊢
          rw [if_neg (by intro hh; exact absurd (show false = true from hh) (by decide))]
          exact hK undef _ hG rfl (fun _ _ _ h => h)
         ·have e9 := valsE_get (hp 9 (by decide)) rfl
          simp only [e9] at hK ⊢
          rw [if_neg (by intro hh; exact absurd (show false = true from hh) (by decide))]
          exact hK undef _ hG rfl (fun _ _ _ h => h)
         ·have e9 := valsE_get (hp 9 (by decide)) rfl
          simp only [e9] at hK ⊢
          rw [if_neg (by intro hh; exact absurd (show false = true from hh) (by decide))]
          exact hK undef _ hG rfl (fun _ _ _ h => h)
         ·have e9 := valsE_get (hp 9 (by decide)) rfl
          simp only [e9] at hK ⊢
          rw [if_neg (by intro hh; exact absurd (show false = true from hh) (by decide))]
          exact hK undef _ hG rfl (fun _ _ _ h => h)
         ·have e9 := valsE_get (hp 9 (by decide)) rfl
          simp only [e9] at hK ⊢
          rw [if_neg (by intro hh; exact absurd (show false = true from hh) (by decide))]
          exact hK undef _ hG rfl (fun _ _ _ h => h)
         ·have e9 := valsE_get (hp 9 (by decide)) rfl
          simp only [e9] at hK ⊢
          rw [if_neg (by intro hh; exact absurd (show false = true from hh) (by decide))]
          exact hK undef _ hG rfl (fun _ _ _ h => h)
         ·have e1 := valsE_get (hp 1 (by decide)) rfl
          have e9 := valsE_get (hp 9 (by decide)) rfl
          have e17 := valsE_get (hp 17 (by decide)) rfl
          simp only [e1, e9, e17] at hK ⊢
          rw [if_pos (by rfl)]
          go_simp
          exact hK _ _ hG rfl (fun _ _ _ h => h)
         ·have e1 := valsE_get (hp 1 (by decide)) rfl
          have e18 := valsE_get (hp 18 (by decide)) rfl
          simp only [e1, e18] at hK ⊢
          rw [if_pos (by rfl)]
          go_simp
          exact hK _ _ hG rfl (fun _ _ _ h => h)
       all_goals intro t W hG hp K hK
       all_goals simp only [fill, Act.put, List.setIfInBounds_toArray, List.set_cons_zero, List.set_cons_succ] at hK ⊢
       ·rw [if_pos (by rfl)]
        go_simp
        exact hK _ _ hG rfl (fun _ _ _ h => h)
       ·have e0 := valsE_get (hp 0 (by decide)) rfl
        have cx := (Hbk.out.below hG Hbk.out.lt).cell 1
        simp at cx
        simp only [e0] at hK ⊢
        rw [if_pos (by rfl)]
        go_simp
        exact hK _ _ hG rfl (fun _ _ _ h => h)
       ·rw [if_pos (by rfl)]
        go_simp
        exact hK _ _ hG rfl (fun _ _ _ h => h)
       ·have e1 := valsE_get (hp 1 (by decide)) rfl
        have e2 := valsE_get (hp 2 (by decide)) rfl
        simp only [e1, e2] at hK ⊢
        rw [if_pos (by rfl)]
        go_simp
        exact hK _ _ hG rfl (fun _ _ _ h => h)
       ·have e3 := valsE_get (hp 3 (by decide)) rfl
        have cx := Hrow.out W hG
        simp only [e3] at hK ⊢
        rw [if_pos (by rfl)]
        go_simp
        exact hK _ _ hG rfl (fun _ _ _ h => h)
       ·have e4 := valsE_get (hp 4 (by decide)) rfl
        simp only [e4] at hK ⊢
        rw [if_pos (by rfl)]
        go_simp
        exact hK _ _ hG rfl (fun _ _ _ h => h)
       ·have e5 := valsE_get (hp 5 (by decide)) rfl
        simp only [e5] at hK ⊢
        rw [if_pos (by rfl)]
        go_simp
        exact hK _ _ hG rfl (fun _ _ _ h => h)
       ·have e6 := valsE_get (hp 6 (by decide)) rfl
        simp only [e6] at hK ⊢
        rw [if_pos (by rfl)]
        go_simp
        exact hK _ _ hG rfl (fun _ _ _ h => h)
       ·have e7 := valsE_get (hp 7 (by decide)) rfl
        simp only [e7] at hK ⊢
        rw [if_neg (by intro hh; exact absurd (show false = true from hh) (by decide))]
        exact hK undef _ hG rfl (fun _ _ _ h => h)
       ·have e7 := valsE_get (hp 7 (by decide)) rfl
        simp only [e7] at hK ⊢
        rw [if_neg (by intro hh; exact absurd (show false = true from hh) (by decide))]
        exact hK undef _ hG rfl (fun _ _ _ h => h)
       ·have e7 := valsE_get (hp 7 (by decide)) rfl
        simp only [e7] at hK ⊢
        rw [if_neg (by intro hh; exact absurd (show false = true from hh) (by decide))]
        exact hK undef _ hG rfl (fun _ _ _ h => h)
       ·have e7 := valsE_get (hp 7 (by decide)) rfl
        simp only [e7] at hK ⊢
        rw [if_neg (by intro hh; exact absurd (show false = true from hh) (by decide))]
        exact hK undef _ hG rfl (fun _ _ _ h => h)
       ·have e7 := valsE_get (hp 7 (by decide)) rfl
        simp only [e7] at hK ⊢
        rw [if_neg (by intro hh; exact absurd (show false = true from hh) (by decide))]
        exact hK undef _ hG rfl (fun _ _ _ h => h)
       ·have e7 := valsE_get (hp 7 (by decide)) rfl
        simp only [e7] at hK ⊢
        rw [if_neg (by intro hh; exact absurd (show false = true from hh) (by decide))]
        exact hK undef _ hG rfl (fun _ _ _ h => h)
       ·have e7 := valsE_get (hp 7 (by decide)) rfl
        simp only [e7] at hK ⊢
        rw [if_neg (by intro hh; exact absurd (show false = true from hh) (by decide))]
        exact hK undef _ hG rfl (fun _ _ _ h => h)
       ·have e7 := valsE_get (hp 7 (by decide)) rfl
        simp only [e7] at hK ⊢
        rw [if_neg (by intro hh; exact absurd (show false = true from hh) (by decide))]
        exact hK undef _ hG rfl (fun _ _ _ h => h)
       ·have e7 := valsE_get (hp 7 (by decide)) rfl
        simp only [e7] at hK ⊢
        rw [if_neg (by intro hh; exact absurd (show false = true from hh) (by decide))]
        exact hK undef _ hG rfl (fun _ _ _ h => h)
       ·have e7 := valsE_get (hp 7 (by decide)) rfl
        have e16 := valsE_get (hp 16 (by decide)) rfl
        simp only [e7, e16] at hK ⊢
        rw [if_pos (by rfl)]
        go_simp
        exact hK _ _ hG rfl (fun _ _ _ h => h)
      by_cases hlN : lk = N
      rotate_left
      ·have h0i : (0 : Int) < (lk : Int) := by omega
       have hne : ((lk : Int) == (N : Int)) = false := by simp; omega
       have Hf := hide (Hbad.out (Or.inr (Or.inr ⟨k, by rw [H1.out]; exact hkl, by rw [← Hlk.out]; exact hl0, by rw [← Hlk.out]; exact hlN⟩)))
       clear hl0 hlN Hlk HL Hnext
       go_wp2_with fail
       clear n0 n1 n2 n3 n4
       refine wp_region_only (fun W => Below wr.heap.size wr W) (valsE [.pointer (some ⟨q8, 1, none⟩), .slice (some ⟨rr.T.gb, rr.T.go, none⟩) N rr.T.cap, .int .i64 (k : Int), .pointer (some ⟨rr.T.gb, rr.T.go + k, none⟩), .slice (rr.T.A k) lk (rr.T.C k), .int .i64 (lk : Int), .bool true, .bool true, .pointer (some ⟨q8, 1, none⟩), .slice (some ⟨rr.T.gb, rr.T.go, none⟩) N rr.T.cap, .int .i64 (k : Int), .pointer (some ⟨rr.T.gb, rr.T.go + k, none⟩), .slice (rr.T.A k) lk (rr.T.C k), .int .i64 (lk : Int), .pointer (some ⟨w.heap.size, 3, none⟩), .int .i64 (N : Int), .bool true, .bool true]) (by kernel_rfl) (by kernel_rfl) (by kernel_rfl) (⟨rfl, rfl, rfl, Nat.le_refl _, fun _ _ => rfl⟩) ⟨?_, ?_, ?_, ?_, ?_, ?_, ?_, ?_, ?_, ?_, ?_, ?_, ?_, ?_, ?_, ?_, ?_, ?_, trivial⟩ ?_
       rotate_right
       ·intro t W hG hE
        have e17 := valsE_get (hE 17 (by decide)) rfl
        have HG' := hide hG
        clear hE hG
        simp only [fill, Act.put, List.setIfInBounds_toArray, List.set_cons_zero, List.set_cons_succ, e17]
        clear e17
        have HB := hide (HGk.out.keep HG'.out).below
        go_wp2
        go_ret
        exact ⟨by rw [Hf.out]; rfl, HB.out⟩
       all_goals intro t W hG hp K hK
       all_goals simp only [fill, Act.put, List.setIfInBounds_toArray, List.set_cons_zero, List.set_cons_succ] at hK ⊢
       ·rw [if_pos (by rfl)]
        go_simp
        exact hK _ _ hG rfl (fun _ _ _ h => h)
       ·have e0 := valsE_get (hp 0 (by decide)) rfl
        have cx := (Hbk.out.below hG Hbk.out.lt).cell 1
        simp at cx
        simp only [e0] at hK ⊢
        rw [if_pos (by rfl)]
        go_simp
        exact hK _ _ hG rfl (fun _ _ _ h => h)
       ·rw [if_pos (by rfl)]
        go_simp
        exact hK _ _ hG rfl (fun _ _ _ h => h)
       ·have e1 := valsE_get (hp 1 (by decide)) rfl
        have e2 := valsE_get (hp 2 (by decide)) rfl
        simp only [e1, e2] at hK ⊢
        rw [if_pos (by rfl)]
        go_simp
        exact hK _ _ hG rfl (fun _ _ _ h => h)
       ·have e3 := valsE_get (hp 3 (by decide)) rfl
        have cx := Hrow.out W hG
        simp only [e3] at hK ⊢
        rw [if_pos (by rfl)]
        go_simp
        exact hK _ _ hG rfl (fun _ _ _ h => h)
       ·have e4 := valsE_get (hp 4 (by decide)) rfl
        simp only [e4] at hK ⊢
        rw [if_pos (by rfl)]
        go_simp
        exact hK _ _ hG rfl (fun _ _ _ h => h)
       ·have e5 := valsE_get (hp 5 (by decide)) rfl
        simp only [e5] at hK ⊢
        rw [if_pos (by rfl)]
        have h0n : decide (0 < lk) = true := decide_eq_true (by omega)
        go_simp
        exact hK _ _ hG rfl (fun _ _ _ h => h)
       ·have e6 := valsE_get (hp 6 (by decide)) rfl
        simp only [e6] at hK ⊢
        rw [if_pos (by rfl)]
        go_simp
        exact hK _ _ hG rfl (fun _ _ _ h => h)
       ·have e7 := valsE_get (hp 7 (by decide)) rfl
        simp only [e7] at hK ⊢
        rw [if_pos (by rfl)]
        go_simp
        exact hK _ _ hG rfl (fun _ _ _ h => h)
       ·have e7 := valsE_get (hp 7 (by decide)) rfl
        have e8 := valsE_get (hp 8 (by decide)) rfl
        have cx := (Hbk.out.below hG Hbk.out.lt).cell 1
        simp at cx
        simp only [e7, e8] at hK ⊢
        rw [if_pos (by rfl)]
        go_simp
        exact hK _ _ hG rfl (fun _ _ _ h => h)
       ·have e7 := valsE_get (hp 7 (by decide)) rfl
        simp only [e7] at hK ⊢
        rw [if_pos (by rfl)]
        go_simp
        exact hK _ _ hG rfl (fun _ _ _ h => h)
       ·have e7 := valsE_get (hp 7 (by decide)) rfl
        have e9 := valsE_get (hp 9 (by decide)) rfl
        have e10 := valsE_get (hp 10 (by decide)) rfl
        simp only [e7, e9, e10] at hK ⊢
        rw [if_pos (by rfl)]
        go_simp
        exact hK _ _ hG rfl (fun _ _ _ h => h)
       ·have e7 := valsE_get (hp 7 (by decide)) rfl
        have e11 := valsE_get (hp 11 (by decide)) rfl
        have cx := Hrow.out W hG
        simp only [e7, e11] at hK ⊢
        rw [if_pos (by rfl)]
        go_simp
        exact hK _ _ hG rfl (fun _ _ _ h => h)
       ·have e7 := valsE_get (hp 7 (by decide)) rfl
        have e12 := valsE_get (hp 12 (by decide)) rfl
        simp only [e7, e12] at hK ⊢
        rw [if_pos (by rfl)]
        go_simp
        exact hK _ _ hG rfl (fun _ _ _ h => h)
       ·have e7 := valsE_get (hp 7 (by decide)) rfl
        simp only [e7] at hK ⊢
        rw [if_pos (by rfl)]
        go_simp
        exact hK _ _ hG rfl (fun _ _ _ h => h)
       ·have e7 := valsE_get (hp 7 (by decide)) rfl
        have e14 := valsE_get (hp 14 (by decide)) rfl
        have cx := (HGk.out.keep hG).bn.cell 3
        rw [Hnc.out] at cx
        simp at cx
        simp only [e7, e14] at hK ⊢
        rw [if_pos (by rfl)]
        go_simp
        exact hK _ _ hG rfl (fun _ _ _ h => h)
       ·have e7 := valsE_get (hp 7 (by decide)) rfl
        have e13 := valsE_get (hp 13 (by decide)) rfl
        have e15 := valsE_get (hp 15 (by decide)) rfl
        simp only [e7, e13, e15] at hK ⊢
        rw [if_pos (by rfl)]
        have hnn9 : ((lk : Int) != (N : Int)) = true := by rw [bne, hne]; rfl
        go_simp
        first | exact hK _ _ hG rfl (fun _ _ _ h => h) | exact hK _ _ hG (by rw [hnn9]; rfl) (fun _ _ _ h => h)
       ·have e7 := valsE_get (hp 7 (by decide)) rfl
        have e16 := valsE_get (hp 16 (by decide)) rfl
        simp only [e7, e16] at hK ⊢
        rw [if_pos (by rfl)]
        go_simp
        exact hK _ _ hG rfl (fun _ _ _ h => h)
      have h0i : (0 : Int) < (N : Int) := by omega
      rw [hlN] at Hnext Hrow Hlk
      have HLn : Hid (∀ q, q < k + 1 → rr.T.t.L q = 0 ∨ rr.T.t.L q = N) := hide (fun q hq => by
       by_cases e : q = k
       ·rw [e]; exact Or.inr Hlk.out.symm
       ·exact HL.out q (by omega))
      obtain ⟨rv, hrv⟩ : ∃ rv, rv = n.net.row N (rr.T.t.Z k) := ⟨_, rfl⟩
      have Hrv5 : Hid ((rv == 5) = !rowIn N (rr.T.t.Z k) n.a.size) := hide (by rw [hrv]; exact n.net.row_five N _ Hnn.out.symm)
      have HCk := hide (fun W (hb : Below wr.heap.size wr W) => HRw.out (rr.T.A k) N (rr.T.C k) (rr.T.RB k) (rr.T.RO k) (rr.T.t.Z k) W (by have := (Hin.out W hb).T.ints (r := k) (by rw [H1.out]; exact hkl); rwa [← Hlk.out] at this) (fun _ => Nat.lt_of_lt_of_le ((Hin.out W hb).T.addr k (by rw [H1.out]; exact hkl) (by rw [← Hlk.out]; exact hN0)).2 (HGk.out.keep hb).below.size))
      rw [← hrv] at HCk
      clear hl0 hlN Hlk HL hrv
      go_wp2_with fail
      clear n0 n1 n2 n3 n4
      refine wp_region_only (fun W => Below wr.heap.size wr W) (valsE [.pointer (some ⟨q8, 1, none⟩), .slice (some ⟨rr.T.gb, rr.T.go, none⟩) N rr.T.cap, .int .i64 (k : Int), .pointer (some ⟨rr.T.gb, rr.T.go + k, none⟩), .slice (rr.T.A k) N (rr.T.C k), .int .i64 (N : Int), .bool true, .bool true, .pointer (some ⟨q8, 1, none⟩), .slice (some ⟨rr.T.gb, rr.T.go, none⟩) N rr.T.cap, .int .i64 (k : Int), .pointer (some ⟨rr.T.gb, rr.T.go + k, none⟩), .slice (rr.T.A k) N (rr.T.C k), .int .i64 (N : Int), .pointer (some ⟨w.heap.size, 3, none⟩), .int .i64 (N : Int), .bool false, .bool false]) (by kernel_rfl) (by kernel_rfl) (by kernel_rfl) (⟨rfl, rfl, rfl, Nat.le_refl _, fun _ _ => rfl⟩) ⟨?_, ?_, ?_, ?_, ?_, ?_, ?_, ?_, ?_, ?_, ?_, ?_, ?_, ?_, ?_, ?_, ?_, ?_, trivial⟩ ?_
      rotate_right
      ·intro t W hG hE
       have e17 := valsE_get (hE 17 (by decide)) rfl
       have HG' := hide hG
       clear hE hG
       simp only [fill, Act.put, List.setIfInBounds_toArray, List.set_cons_zero, List.set_cons_succ, e17]
       clear e17
       obtain ⟨wr2, hwr2⟩ : ∃ wr2, wr2 = W := ⟨_, rfl⟩
       rw [← hwr2] at HG' ⊢
       clear hwr2
       have HBr2 := hide (HBr.out.trans (HG'.out.mono HBr.out.size))
       have HGk2 := hide (HGk.out.keep HG'.out)
       have Hbk2 := hide (Hbk.out.below HG'.out Hbk.out.lt)
       have Hrow2 := hide (fun W (hb : Below wr2.heap.size wr2 W) => Hrow.out W (HG'.out.trans (hb.mono HG'.out.size)))
       have HCk2 := hide (fun W (hb : Below wr2.heap.size wr2 W) => HCk.out W (HG'.out.trans (hb.mono HG'.out.size)))
       clear HG'
       go_wp2_with fail
       clear HBr HGk Hbk Hrow HCk
       cases fb with
       | true =>
        have Hn : Hid ((x.rs.noneTo n.a.size i || rr.noneIn n.a.size (k + 1)) = true) := hide (by rw [Hnext.out, Bool.true_or])
        refine wp_region_last 20 _ (fun W => Below wr2.heap.size wr2 W) (valsE [.bool true, .bool true, undef, undef, undef, undef, undef, undef, undef, undef, undef, undef, undef, undef, undef, undef, undef, undef, undef, .bool true]) (fun v W => v = .bool true ∧ Below wr2.heap.size wr2 W) (fun _ _ _ => True) (by kernel_rfl) (by kernel_rfl) (by kernel_rfl) (by kernel_rfl) (by kernel_rfl) rfl (show Below wr2.heap.size wr2 wr2.drew from ⟨rfl, rfl, rfl, Nat.le_refl _, fun _ _ => rfl⟩) ⟨?_, ?_, ?_, ?_, ?_, ?_, ?_, ?_, ?_, ?_, ?_, ?_, ?_, ?_, ?_, ?_, ?_, ?_, ?_, ?_, trivial⟩ ?_ trivial ?_
        rotate_right
        ·intro t W hG _
         have e20 := hG.1
         have HG' := hide hG.2
         clear hG
         simp only [fill, Act.put, List.setIfInBounds_toArray, List.set_cons_zero, List.set_cons_succ, e20]
         clear e20
         have HB4 := hide (HBr2.out.trans (HG'.out.mono HBr2.out.size))
         clear HG'
         go_wp2
         go_roundw
         case rel =>
          first
          | exact ⟨k + 1, by omega, by go_num, by rw [Hn.out], HLn, HB4⟩
          | ((try rw [← HTga.out]); (repeat apply Exists.intro); refine ⟨?_, rfl⟩; exact ⟨k + 1, by omega, by go_num, by rw [Hn.out], HLn, HB4⟩)
         case measure => simp [intOf]; omega
        rotate_right
        ·intro t W hG hE _ K hK
         have e19 := valsE_get (hE 19 (by omega)) rfl
         simp only [fill, Act.put, List.setIfInBounds_toArray, List.set_cons_zero, List.set_cons_succ, e19] at hK ⊢
         rw [if_pos (by rfl)]
         go_simp
         exact hK _ _ ⟨rfl, hG⟩
        all_goals intro t W hG hp ht K hK
        all_goals have h20 : t 20 = .bool true := ht 20 (by decide)
        all_goals clear ht
        all_goals simp only [fill, Act.put, List.setIfInBounds_toArray, List.set_cons_zero, List.set_cons_succ, h20] at hK ⊢
        all_goals clear h20
        ·rw [if_pos (by rfl)]
         go_simp
         exact hK _ _ hG rfl (fun _ _ _ h => h)
        ·have e0 := valsE_get (hp 0 (by decide)) rfl
         simp only [e0] at hK ⊢
         rw [if_pos (by rfl)]
         go_simp
         exact hK _ _ hG rfl (fun _ _ _ h => h)
        ·have e1 := valsE_get (hp 1 (by decide)) rfl
         simp only [e1] at hK ⊢
         rw [if_neg (by intro hh; exact absurd (show false = true from hh) (by decide))]
         exact hK undef _ hG rfl (fun _ _ _ h => h)
        ·have e1 := valsE_get (hp 1 (by decide)) rfl
         simp only [e1] at hK ⊢
         rw [if_neg (by intro hh; exact absurd (show false = true from hh) (by decide))]
         exact hK undef _ hG rfl (fun _ _ _ h => h)
        ·have e1 := valsE_get (hp 1 (by decide)) rfl
         simp only [e1] at hK ⊢
         rw [if_neg (by intro hh; exact absurd (show false = true from hh) (by decide))]
         exact hK undef _ hG rfl (fun _ _ _ h => h)
        ·have e1 := valsE_get (hp 1 (by decide)) rfl
         simp only [e1] at hK ⊢
         rw [if_neg (by intro hh; exact absurd (show false = true from hh) (by decide))]
         exact hK undef _ hG rfl (fun _ _ _ h => h)
        ·have e1 := valsE_get (hp 1 (by decide)) rfl
         simp only [e1] at hK ⊢
         rw [if_neg (by intro hh; exact absurd (show false = true from hh) (by decide))]
         exact hK undef _ hG rfl (fun _ _ _ h => h)
        ·have e1 := valsE_get (hp 1 (by decide)) rfl
         simp only [e1] at hK ⊢
         rw [if_neg (by intro hh; exact absurd (show false = true from hh) (by decide))]
         exact hK undef _ hG rfl (fun _ _ _ h => h)
        ·have e1 := valsE_get (hp 1 (by decide)) rfl
         simp only [e1] at hK ⊢
         rw [if_neg (by intro hh; exact absurd (show false = true from hh) (by decide))]
         exact hK undef _ hG rfl (fun _ _ _ h => h)
        ·have e1 := valsE_get (hp 1 (by decide)) rfl
         simp only [e1] at hK ⊢
         rw [if_neg (by intro hh; exact absurd (show false = true from hh) (by decide))]
         exact hK undef _ hG rfl (fun _ _ _ h => h)
        ·have e9 := valsE_get (hp 9 (by decide)) rfl
         simp only [e9] at hK ⊢
         rw [if_neg (by intro hh; exact absurd (show false = true from hh) (by decide))]
         exact hK undef _ hG rfl (fun _ _ _ h => h)
        ·have e9 := valsE_get (hp 9 (by decide)) rfl
         simp only [e9] at hK ⊢
         rw [if_neg (by intro hh; exact absurd (show false = true from hh) (by decide))]
         exact hK undef _ hG rfl (fun _ _ _ h => h)
        ·have e9 := valsE_get (hp 9 (by decide)) rfl
         simp only [e9] at hK ⊢
         rw [if_neg (by intro hh; exact absurd (show false = true from hh) (by decide))]
         exact hK undef _ hG rfl (fun _ _ _ h => h)
        ·have e9 := valsE_get (hp 9 (by decide)) rfl
         simp only [e9] at hK ⊢
         rw [if_neg (by intro hh; exact absurd (show false = true from hh) (by decide))]
         exact hK undef _ hG rfl (fun _ _ _ h => h)
        ·have e9 := valsE_get (hp 9 (by decide)) rfl
         simp only [e9] at hK ⊢
         rw [if_neg (by intro hh; exact absurd (show false = true from hh) (by decide))]
         exact hK undef _ hG rfl (fun _ _ _ h => h)
        ·have e9 := valsE_get (hp 9 (by decide)) rfl
         simp only [e9] at hK ⊢
         rw [if_neg (by intro hh; exact absurd (show false = true from hh) (by decide))]
         exact hK undef _ hG rfl (fun _ _ _ h => h)
        ·have e9 := valsE_get (hp 9 (by decide)) rfl
         simp only [e9] at hK ⊢
         rw [if_neg (by intro hh; exact absurd (show false = true from hh) (by decide))]
         exact hK undef _ hG rfl (fun _ _ _ h => h)
        ·have e9 := valsE_get (hp 9 (by decide)) rfl
         simp only [e9] at hK ⊢
         rw [if_neg (by intro hh; exact absurd (show false = true from hh) (by decide))]
         exact hK undef _ hG rfl (fun _ _ _ h => h)
        ·have e1 := valsE_get (hp 1 (by decide)) rfl
         simp only [e1] at hK ⊢
         rw [if_neg (by intro hh; exact absurd (show false = true from hh) (by decide))]
         exact hK undef _ hG rfl (fun _ _ _ h => h)
        ·have e1 := valsE_get (hp 1 (by decide)) rfl
         have e18 := valsE_get (hp 18 (by decide)) rfl
         simp only [e1, e18] at hK ⊢
         rw [if_pos (by rfl)]
         go_simp
         exact hK _ _ hG rfl (fun _ _ _ h => h)
       | false =>
        have Hn : Hid ((x.rs.noneTo n.a.size i || rr.noneIn n.a.size (k + 1)) = (rv == 5)) := hide (by rw [Hnext.out, Bool.false_or, ← Hrv5.out])
        refine wp_region_last 20 _ (fun W => Below wr2.heap.size wr2 W) (valsE [.bool false, .bool false, .pointer (some ⟨q8, 1, none⟩), .slice (some ⟨rr.T.gb, rr.T.go, none⟩) N rr.T.cap, .int .i64 (k : Int), .pointer (some ⟨rr.T.gb, rr.T.go + k, none⟩), .slice (rr.T.A k) N (rr.T.C k), .int .i64 (N : Int), .bool true, .bool true, .agg #[.int .i64 n.a.size, .slice n.a.B.ga n.a.B.t.len n.a.B.cap, .slice n.a.E.ga n.a.E.t.len n.a.E.cap, .int .i64 (N : Int), .slice n.la n.ln n.lc], .pointer (some ⟨q8, 1, none⟩), .slice (some ⟨rr.T.gb, rr.T.go, none⟩) N rr.T.cap, .int .i64 (k : Int), .pointer (some ⟨rr.T.gb, rr.T.go + k, none⟩), .slice (rr.T.A k) N (rr.T.C k), .int .i64 rv, .bool (rv == 5), .bool (rv == 5), .bool (rv == 5)]) (fun v W => v = .bool (rv == 5) ∧ Below wr2.heap.size wr2 W) (fun _ _ _ => True) (by kernel_rfl) (by kernel_rfl) (by kernel_rfl) (by kernel_rfl) (by kernel_rfl) rfl (show Below wr2.heap.size wr2 wr2.drew from ⟨rfl, rfl, rfl, Nat.le_refl _, fun _ _ => rfl⟩) ⟨?_, ?_, ?_, ?_, ?_, ?_, ?_, ?_, ?_, ?_, ?_, ?_, ?_, ?_, ?_, ?_, ?_, ?_, ?_, ?_, trivial⟩ ?_ trivial ?_
        rotate_right
        ·intro t W hG _
         have e20 := hG.1
         have HG' := hide hG.2
         clear hG
         simp only [fill, Act.put, List.setIfInBounds_toArray, List.set_cons_zero, List.set_cons_succ, e20]
         clear e20
         have HB4 := hide (HBr2.out.trans (HG'.out.mono HBr2.out.size))
         clear HG'
         go_wp2
         go_roundw
         case rel =>
          first
          | exact ⟨k + 1, by omega, by go_num, by rw [Hn.out], HLn, HB4⟩
          | ((try rw [← HTga.out]); (repeat apply Exists.intro); refine ⟨?_, rfl⟩; exact ⟨k + 1, by omega, by go_num, by rw [Hn.out], HLn, HB4⟩)
         case measure => simp [intOf]; omega
        rotate_right
        ·intro t W hG hE _ K hK
         have e19 := valsE_get (hE 19 (by omega)) rfl
         simp only [fill, Act.put, List.setIfInBounds_toArray, List.set_cons_zero, List.set_cons_succ, e19] at hK ⊢
         rw [if_pos (by rfl)]
         go_simp
         exact hK _ _ ⟨rfl, hG⟩
        all_goals intro t W hG hp ht K hK
        all_goals have h20 : t 20 = .bool false := ht 20 (by decide)
        all_goals clear ht
        all_goals simp only [fill, Act.put, List.setIfInBounds_toArray, List.set_cons_zero, List.set_cons_succ, h20] at hK ⊢
        all_goals clear h20
        ·rw [if_pos (by rfl)]
         go_simp
         exact hK _ _ hG rfl (fun _ _ _ h => h)
        ·have e0 := valsE_get (hp 0 (by decide)) rfl
         simp only [e0] at hK ⊢
         rw [if_pos (by rfl)]
         go_simp
         exact hK _ _ hG rfl (fun _ _ _ h => h)
        ·have e1 := valsE_get (hp 1 (by decide)) rfl
         simp only [e1] at hK ⊢
         rw [if_pos (by rfl)]
         go_simp
         exact hK _ _ hG rfl (fun _ _ _ h => h)
        ·have e1 := valsE_get (hp 1 (by decide)) rfl
         have e2 := valsE_get (hp 2 (by decide)) rfl
         have cx := (Hbk2.out.below hG Hbk2.out.lt).cell 1
         simp at cx
         simp only [e1, e2] at hK ⊢
         rw [if_pos (by rfl)]
         go_simp
         exact hK _ _ hG rfl (fun _ _ _ h => h)
        ·have e1 := valsE_get (hp 1 (by decide)) rfl
         simp only [e1] at hK ⊢
         rw [if_pos (by rfl)]
         go_simp
         exact hK _ _ hG rfl (fun _ _ _ h => h)
        ·have e1 := valsE_get (hp 1 (by decide)) rfl
         have e3 := valsE_get (hp 3 (by decide)) rfl
         have e4 := valsE_get (hp 4 (by decide)) rfl
         simp only [e1, e3, e4] at hK ⊢
         rw [if_pos (by rfl)]
         go_simp
         exact hK _ _ hG rfl (fun _ _ _ h => h)
        ·have e1 := valsE_get (hp 1 (by decide)) rfl
         have e5 := valsE_get (hp 5 (by decide)) rfl
         have cx := Hrow2.out W hG
         simp only [e1, e5] at hK ⊢
         rw [if_pos (by rfl)]
         go_simp
         exact hK _ _ hG rfl (fun _ _ _ h => h)
        ·have e1 := valsE_get (hp 1 (by decide)) rfl
         have e6 := valsE_get (hp 6 (by decide)) rfl
         simp only [e1, e6] at hK ⊢
         rw [if_pos (by rfl)]
         go_simp
         exact hK _ _ hG rfl (fun _ _ _ h => h)
        ·have e1 := valsE_get (hp 1 (by decide)) rfl
         have e7 := valsE_get (hp 7 (by decide)) rfl
         simp only [e1, e7] at hK ⊢
         rw [if_pos (by rfl)]
         go_simp
         exact hK _ _ hG rfl (fun _ _ _ h => h)
        ·have e1 := valsE_get (hp 1 (by decide)) rfl
         have e8 := valsE_get (hp 8 (by decide)) rfl
         simp only [e1, e8] at hK ⊢
         rw [if_pos (by rfl)]
         go_simp
         exact hK _ _ hG rfl (fun _ _ _ h => h)
        ·have e9 := valsE_get (hp 9 (by decide)) rfl
         have cn := (HGk2.out.keep hG).bn
         have c0 := cn.cell 0
         have c1 := cn.cell 1
         have c2 := cn.cell 2
         have c3 := cn.cell 3
         have c4 := cn.cell 4
         rw [Hnc.out] at c0 c1 c2 c3 c4
         simp at c0 c1 c2 c3 c4
         clear cn
         simp only [e9] at hK ⊢
         rw [if_pos (by rfl)]
         go_simp
         exact hK _ _ hG rfl (fun _ _ _ h => h)
        ·have e9 := valsE_get (hp 9 (by decide)) rfl
         simp only [e9] at hK ⊢
         rw [if_pos (by rfl)]
         go_simp
         exact hK _ _ hG rfl (fun _ _ _ h => h)
        ·have e9 := valsE_get (hp 9 (by decide)) rfl
         have e11 := valsE_get (hp 11 (by decide)) rfl
         have cx := (Hbk2.out.below hG Hbk2.out.lt).cell 1
         simp at cx
         simp only [e9, e11] at hK ⊢
         rw [if_pos (by rfl)]
         go_simp
         exact hK _ _ hG rfl (fun _ _ _ h => h)
        ·have e9 := valsE_get (hp 9 (by decide)) rfl
         simp only [e9] at hK ⊢
         rw [if_pos (by rfl)]
         go_simp
         exact hK _ _ hG rfl (fun _ _ _ h => h)
        ·have e9 := valsE_get (hp 9 (by decide)) rfl
         have e12 := valsE_get (hp 12 (by decide)) rfl
         have e13 := valsE_get (hp 13 (by decide)) rfl
         simp only [e9, e12, e13] at hK ⊢
         rw [if_pos (by rfl)]
         go_simp
         exact hK _ _ hG rfl (fun _ _ _ h => h)
        ·have e9 := valsE_get (hp 9 (by decide)) rfl
         have e14 := valsE_get (hp 14 (by decide)) rfl
         have cx := Hrow2.out W hG
         simp only [e9, e14] at hK ⊢
         rw [if_pos (by rfl)]
         go_simp
         exact hK _ _ hG rfl (fun _ _ _ h => h)
        ·have e9 := valsE_get (hp 9 (by decide)) rfl
         have e10 := valsE_get (hp 10 (by decide)) rfl
         have e15 := valsE_get (hp 15 (by decide)) rfl
         simp only [e9, e10, e15] at hK ⊢
         rw [if_pos (by rfl)]
         go_simp
         go_at_call 26
         refine (HCk2.out W hG).mono ?_
         rintro r W' ⟨rfl, hb'⟩
         go_simp
         exact hK _ W' (hG.trans (hb'.mono hG.size)) rfl (fun _ _ _ h => h)
        ·have e9 := valsE_get (hp 9 (by decide)) rfl
         have e16 := valsE_get (hp 16 (by decide)) rfl
         simp only [e9, e16] at hK ⊢
         rw [if_pos (by rfl)]
         go_simp
         exact hK _ _ hG rfl (fun _ _ _ h => h)
        ·have e1 := valsE_get (hp 1 (by decide)) rfl
         have e9 := valsE_get (hp 9 (by decide)) rfl
         have e17 := valsE_get (hp 17 (by decide)) rfl
         simp only [e1, e9, e17] at hK ⊢
         rw [if_pos (by rfl)]
         go_simp
         exact hK _ _ hG rfl (fun _ _ _ h => h)
        ·have e1 := valsE_get (hp 1 (by decide)) rfl
         have e18 := valsE_get (hp 18 (by decide)) rfl
         simp only [e1, e18] at hK ⊢
         rw [if_pos (by rfl)]
         go_simp
         exact hK _ _ hG rfl (fun _ _ _ h => h)
      all_goals intro t W hG hp K hK
      all_goals simp only [fill, Act.put, List.setIfInBounds_toArray, List.set_cons_zero, List.set_cons_succ] at hK ⊢
      ·rw [if_pos (by rfl)]
       go_simp
       exact hK _ _ hG rfl (fun _ _ _ h => h)
      ·have e0 := valsE_get (hp 0 (by decide)) rfl
       have cx := (Hbk.out.below hG Hbk.out.lt).cell 1
       simp at cx
       simp only [e0] at hK ⊢
       rw [if_pos (by rfl)]
       go_simp
       exact hK _ _ hG rfl (fun _ _ _ h => h)
      ·rw [if_pos (by rfl)]
       go_simp
       exact hK _ _ hG rfl (fun _ _ _ h => h)
      ·have e1 := valsE_get (hp 1 (by decide)) rfl
       have e2 := valsE_get (hp 2 (by decide)) rfl
       simp only [e1, e2] at hK ⊢
       rw [if_pos (by rfl)]
       go_simp
       exact hK _ _ hG rfl (fun _ _ _ h => h)
      ·have e3 := valsE_get (hp 3 (by decide)) rfl
       have cx := Hrow.out W hG
       simp only [e3] at hK ⊢
       rw [if_pos (by rfl)]
       go_simp
       exact hK _ _ hG rfl (fun _ _ _ h => h)
      ·have e4 := valsE_get (hp 4 (by decide)) rfl
       simp only [e4] at hK ⊢
       rw [if_pos (by rfl)]
       go_simp
       exact hK _ _ hG rfl (fun _ _ _ h => h)
      ·have e5 := valsE_get (hp 5 (by decide)) rfl
       simp only [e5] at hK ⊢
       rw [if_pos (by rfl)]
       go_simp
       exact hK _ _ hG rfl (fun _ _ _ h => h)
      ·have e6 := valsE_get (hp 6 (by decide)) rfl
       simp only [e6] at hK ⊢
       rw [if_pos (by rfl)]
       go_simp
       exact hK _ _ hG rfl (fun _ _ _ h => h)
      ·have e7 := valsE_get (hp 7 (by decide)) rfl
       simp only [e7] at hK ⊢
       rw [if_pos (by rfl)]
       go_simp
       exact hK _ _ hG rfl (fun _ _ _ h => h)
      ·have e7 := valsE_get (hp 7 (by decide)) rfl
       have e8 := valsE_get (hp 8 (by decide)) rfl
       have cx := (Hbk.out.below hG Hbk.out.lt).cell 1
       simp at cx
       simp only [e7, e8] at hK ⊢
       rw [if_pos (by rfl)]
       go_simp
       exact hK _ _ hG rfl (fun _ _ _ h => h)
      ·have e7 := valsE_get (hp 7 (by decide)) rfl
       simp only [e7] at hK ⊢
       rw [if_pos (by rfl)]
       go_simp
       exact hK _ _ hG rfl (fun _ _ _ h => h)
      ·have e7 := valsE_get (hp 7 (by decide)) rfl
       have e9 := valsE_get (hp 9 (by decide)) rfl
       have e10 := valsE_get (hp 10 (by decide)) rfl
       simp only [e7, e9, e10] at hK ⊢
       rw [if_pos (by rfl)]
       go_simp
       exact hK _ _ hG rfl (fun _ _ _ h => h)
      ·have e7 := valsE_get (hp 7 (by decide)) rfl
       have e11 := valsE_get (hp 11 (by decide)) rfl
       have cx := Hrow.out W hG
       simp only [e7, e11] at hK ⊢
       rw [if_pos (by rfl)]
       go_simp
       exact hK _ _ hG rfl (fun _ _ _ h => h)
      ·have e7 := valsE_get (hp 7 (by decide)) rfl
       have e12 := valsE_get (hp 12 (by decide)) rfl
       simp only [e7, e12] at hK ⊢
       rw [if_pos (by rfl)]
       go_simp
       exact hK _ _ hG rfl (fun _ _ _ h => h)
      ·have e7 := valsE_get (hp 7 (by decide)) rfl
       simp only [e7] at hK ⊢
       rw [if_pos (by rfl)]
       go_simp
       exact hK _ _ hG rfl (fun _ _ _ h => h)
      ·have e7 := valsE_get (hp 7 (by decide)) rfl
       have e14 := valsE_get (hp 14 (by decide)) rfl
       have cx := (HGk.out.keep hG).bn.cell 3
       rw [Hnc.out] at cx
       simp at cx
       simp only [e7, e14] at hK ⊢
       rw [if_pos (by rfl)]
       go_simp
       exact hK _ _ hG rfl (fun _ _ _ h => h)
      ·have e7 := valsE_get (hp 7 (by decide)) rfl
       have e13 := valsE_get (hp 13 (by decide)) rfl
       have e15 := valsE_get (hp 15 (by decide)) rfl
       simp only [e7, e13, e15] at hK ⊢
       rw [if_pos (by rfl)]
       go_simp
       exact hK _ _ hG rfl (fun _ _ _ h => h)
      ·have e7 := valsE_get (hp 7 (by decide)) rfl
       have e16 := valsE_get (hp 16 (by decide)) rfl
       simp only [e7, e16] at hK ⊢
       rw [if_pos (by rfl)]
       go_simp
       exact hK _ _ hG rfl (fun _ _ _ h => h)
     ·have hkn : k = N := by omega
      have hki : ¬ (k : Int) < (N : Int) := by omega
      have HshN : Hid (∀ r, r < i + 1 → (x.rs.r r).shaped (N : Int) = true) := hide (fun r hr => by
       by_cases e : r = i
       ·rw [e, ← Hrr.out]; exact rr.shaped_of H2.out H1.out (fun q hq => HL.out q (by omega))
       ·exact Hsh.out r (by omega))
      have Hfl : Hid ((x.rs.noneTo n.a.size i || rr.noneIn n.a.size k) = x.rs.noneTo n.a.size (i + 1)) := hide (by rw [RtrsM.noneTo_succ, ← Hrr.out, H1.out, hkn])
      rw [Hfl.out]
      clear hkn HL Hfl
      go_wp2
      go_roundw
      case rel =>
       first
       | exact ⟨i + 1, by omega, by go_num, rfl, HshN, HGk⟩
       | ((try rw [← Hga.out]); (repeat apply Exists.intro); refine ⟨?_, rfl⟩; exact ⟨i + 1, by omega, by go_num, rfl, HshN, HGk⟩)
      case measure => simp [intOf]; omega
   | false =>
    go_wp2_with fail
    go_at_call 26
    refine HCr.out.mono ?_
    rw [← HW3.out, ← Hq8.out]
    rintro r W4 ⟨rfl, hb4⟩
    have Hst : Hid ((n.net.row N rr.R == 5) = (x.rs.noneTo n.a.size i || rr.noneIn n.a.size 0)) := hide (by rw [← Hnb.out, Hfive.out]; unfold RtrM.noneIn; rw [H2.out]; simp)
    have Hb34 := hide hb4
    clear n0a n1a n2a n3a n4a c0 c1 x0 x1 n0 n1 n2 n3 n4 HCr Hfive HGr hb4
    generalize n.net.row N rr.R = rw0 at *
    go_wp2_with fail
    go_loopw [6, 9] (fun b q wr => ∃ k : Nat, k ≤ N ∧ q = .int .i64 k ∧ b = .bool (x.rs.noneTo n.a.size i || rr.noneIn n.a.size k) ∧ Hid (∀ q, q < k → rr.T.t.L q = 0 ∨ rr.T.t.L q = N) ∧ Hid (Below W3.heap.size W3 wr)) (fun _ q _ => N - (intOf q).toNat)
    case atStart => exact ⟨0, Nat.zero_le _, rfl, by rw [← Hst.out], hide (fun q hq => absurd hq (Nat.not_lt_zero _)), Hb34⟩
    case round =>
     clear Hst Hb34
     obtain ⟨k, hk, hq, hb, HL, HBr⟩ := hrel
     subst hq
     subst hb
     have HGk := hide (HG3.out.keep HBr.out)
     have n0 := HGk.out.bn.cell 0
     have n1 := HGk.out.bn.cell 1
     have n2 := HGk.out.bn.cell 2
     have n3 := HGk.out.bn.cell 3
     have n4 := HGk.out.bn.cell 4
     rw [Hnc.out] at n0 n1 n2 n3 n4
     simp at n0 n1 n2 n3 n4
     by_cases hkl : k < N
     ·have hki : (k : Int) < (N : Int) := by omega
      have Hin : Hid (∀ W, Below wr.heap.size wr W → rr.In w.heap.size W) := hide (fun W hb => Hri3.out.below (HBr.out.trans (hb.mono HBr.out.size)) HG3.out.below.size)
      have HTga : Hid (rr.T.ga = some ⟨rr.T.gb, rr.T.go, none⟩) := hide (Hri3.out.T.ga (by rw [H1.out]; exact hN0))
      have Hbk : Hid (Blk wr q8 #[.slice rr.ra N rr.rc, .slice (some ⟨rr.T.gb, rr.T.go, none⟩) N rr.T.cap] 59) := hide (by have := Hb3.out.below HBr.out Hb3.out.lt; rwa [HTga.out] at this)
      obtain ⟨lk, hlk⟩ : ∃ lk, lk = rr.T.t.L k := ⟨_, rfl⟩
      have Hlk := hide hlk
      have Hrow : Hid (∀ W, Below wr.heap.size wr W → W.cell? ⟨rr.T.gb, rr.T.go + k, none⟩ = some (.slice (rr.T.A k) lk (rr.T.C k))) := hide (fun W hb => by rw [Hlk.out]; exact (Hin.out W hb).T.row k (by rw [H1.out]; exact hkl))
      have hlm := Hri3.out.T.lens k (by rw [H1.out]; exact hkl)
      unfold maxLen at hlm
      rw [← hlk] at hlm
      obtain ⟨fb, hfb⟩ : ∃ fb, fb = (x.rs.noneTo n.a.size i || rr.noneIn n.a.size k) := ⟨_, rfl⟩
      have Hnext : Hid ((x.rs.noneTo n.a.size i || rr.noneIn n.a.size (k + 1)) = (fb || !rowIn lk (rr.T.t.Z k) n.a.size)) := hide (by rw [RtrM.noneIn_succ, ← Bool.or_assoc, ← hfb, hlk])
      rw [← hfb]
      clear hfb hlk
      by_cases hl0 : lk = 0
      ·subst hl0
       have HLn : Hid (∀ q, q < k + 1 → rr.T.t.L q = 0 ∨ rr.T.t.L q = N) := hide (fun q hq => by
        by_cases e : q = k
        ·rw [e]; exact Or.inl Hlk.out.symm
        ·exact HL.out q (by omega))
       have Hz : Hid ((x.rs.noneTo n.a.size i || rr.noneIn n.a.size (k + 1)) = fb) := hide (by rw [Hnext.out]; simp [rowIn])
       clear Hlk HL Hnext
       go_wp2_with fail
       clear n0 n1 n2 n3 n4
       refine wp_region_only (fun W => Below wr.heap.size wr W) (valsE [.pointer (some ⟨q8, 1, none⟩), .slice (some ⟨rr.T.gb, rr.T.go, none⟩) N rr.T.cap, .int .i64 (k : Int), .pointer (some ⟨rr.T.gb, rr.T.go + k, none⟩), .slice (rr.T.A k) 0 (rr.T.C k), .int .i64 0, .bool false, .bool false, undef, undef, undef, undef, undef, undef, undef, undef, undef, .bool false]) (by kernel_rfl) (by kernel_rfl) (by kernel_rfl) (⟨rfl, rfl, rfl, Nat.le_refl _, fun _ _ => rfl⟩) ⟨?_, ?_, ?_, ?_, ?_, ?_, ?_, ?_, ?_, ?_, ?_, ?_, ?_, ?_, ?_, ?_, ?_, ?_, trivial⟩ ?_
       rotate_right
       ·intro t W hG hE
        have e17 := valsE_get (hE 17 (by decide)) rfl
        have HG' := hide hG
        clear hE hG
        simp only [fill, Act.put, List.setIfInBounds_toArray, List.set_cons_zero, List.set_cons_succ, e17]
        clear e17
        obtain ⟨wr2, hwr2⟩ : ∃ wr2, wr2 = W := ⟨_, rfl⟩
        rw [← hwr2] at HG' ⊢
        clear hwr2
        have HBr2 := hide (HBr.out.trans (HG'.out.mono HBr.out.size))
        have HGk2 := hide (HGk.out.keep HG'.out)
        have Hbk2 := hide (Hbk.out.below HG'.out Hbk.out.lt)
        have Hrow2 := hide (fun W (hb : Below wr2.heap.size wr2 W) => Hrow.out W (HG'.out.trans (hb.mono HG'.out.size)))
        clear HG'
        go_wp2_with fail
        clear HBr HGk Hbk Hrow
        cases fb with
        | true =>
         have Hn : Hid ((x.rs.noneTo n.a.size i || rr.noneIn n.a.size (k + 1)) = true) := hide (by rw [Hz.out])
         refine wp_region_last 20 _ (fun W => Below wr2.heap.size wr2 W) (valsE [.bool true, .bool true, undef, undef, undef, undef, undef, undef, undef, undef, undef, undef, undef, undef, undef, undef, undef, undef, undef, .bool true]) (fun v W => v = .bool true ∧ Below wr2.heap.size wr2 W) (fun _ _ _ => True) (by kernel_rfl) (by kernel_rfl) (by kernel_rfl) (by kernel_rfl) (by kernel_rfl) rfl (show Below wr2.heap.size wr2 wr2.drew from ⟨rfl, rfl, rfl, Nat.le_refl _, fun _ _ => rfl⟩) ⟨?_, ?_, ?_, ?_, ?_, ?_, ?_, ?_, ?_, ?_, ?_, ?_, ?_, ?_, ?_, ?_, ?_, ?_, ?_, ?_, trivial⟩ ?_ trivial ?_
         rotate_right
         ·intro t W hG _
          have e20 := hG.1
          have HG' := hide hG.2
          clear hG
          simp only [fill, Act.put, List.setIfInBounds_toArray, List.set_cons_zero, List.set_cons_succ, e20]
          clear e20
          have HB4 := hide (HBr2.out.trans (HG'.out.mono HBr2.out.size))
          clear HG'
          go_wp2
          go_roundw
          case rel =>
           first
           | exact ⟨k + 1, by omega, by go_num, by rw [Hn.out], HLn, HB4⟩
           | ((try rw [← HTga.out]); (repeat apply Exists.intro); refine ⟨?_, rfl⟩; exact ⟨k + 1, by omega, by go_num, by rw [Hn.out], HLn, HB4⟩)
          case measure => simp [intOf]; omega
         rotate_right
         ·intro t W hG hE _ K hK
          have e19 := valsE_get (hE 19 (by omega)) rfl
          simp only [fill, Act.put, List.setIfInBounds_toArray, List.set_cons_zero, List.set_cons_succ, e19] at hK ⊢
          rw [if_pos (by rfl)]
          go_simp
          exact hK _ _ ⟨rfl, hG⟩
         all_goals intro t W hG hp ht K hK
         all_goals have h20 : t 20 = .bool true := ht 20 (by decide)
         all_goals clear ht
         all_goals simp only [fill, Act.put, List.setIfInBounds_toArray, List.set_cons_zero, List.set_cons_succ, h20] at hK ⊢
         all_goals clear h20
         ·rw [if_pos (by rfl)]
          go_simp
          exact hK _ _ hG rfl (fun _ _ _ h => h)
         ·have e0 := valsE_get (hp 0 (by decide)) rfl
          simp only [e0] at hK ⊢
          rw [if_pos (by rfl)]
          go_simp
          exact hK _ _ hG rfl (fun _ _ _ h => h)
         ·have e1 := valsE_get (hp 1 (by decide)) rfl
          simp only [e1] at hK ⊢
          rw [if_neg (by intro hh; exact absurd (show false = true from hh) (by decide))]
          exact hK undef _ hG rfl (fun _ _ _ h => h)
         ·have e1 := valsE_get (hp 1 (by decide)) rfl
          simp only [e1] at hK ⊢
          rw [if_neg (by intro hh; exact absurd (show false = true from hh) (by decide))]
          exact hK undef _ hG rfl (fun _ _ _ h => h)
         ·have e1 := valsE_get (hp 1 (by decide)) rfl
          simp only [e1] at hK ⊢
          rw [if_neg (by intro hh; exact absurd (show false = true from hh) (by decide))]
          exact hK undef _ hG rfl (fun _ _ _ h => h)
         ·have e1 := valsE_get (hp 1 (by decide)) rfl
          simp only [e1] at hK ⊢
          rw [if_neg (by intro hh; exact absurd (show false = true from hh) (by decide))]
          exact hK undef _ hG rfl (fun _ _ _ h => h)
         ·have e1 := valsE_get (hp 1 (by decide)) rfl
          simp only [e1] at hK ⊢
          rw [if_neg (by intro hh; exact absurd (show false = true from hh) (by decide))]
          exact hK undef _ hG rfl (fun _ _ _ h => h)
         ·have e1 := valsE_get (hp 1 (by decide)) rfl
          simp only [e1] at hK ⊢
          rw [if_neg (by intro hh; exact absurd (show false = true from hh) (by decide))]
          exact hK undef _ hG rfl (fun _ _ _ h => h)
         ·have e1 := valsE_get (hp 1 (by decide)) rfl
          simp only [e1] at hK ⊢
          rw [if_neg (by intro hh; exact absurd (show false = true from hh) (by decide))]
          exact hK undef _ hG rfl (fun _ _ _ h => h)
         ·have e1 := valsE_get (hp 1 (by decide)) rfl
          simp only [e1] at hK ⊢
          rw [if_neg (by intro hh; exact absurd (show false = true from hh) (by decide))]
          exact hK undef _ hG rfl (fun _ _ _ h => h)
         ·have e9 := valsE_get (hp 9 (by decide)) rfl
          simp only [e9] at hK ⊢
          rw [if_neg (by intro hh; exact absurd (show false = true from hh) (by decide))]
          exact hK undef _ hG rfl (fun _ _ _ h => h)
         ·have e9 := valsE_get (hp 9 (by decide)) rfl
          simp only [e9] at hK ⊢
          rw [if_neg (by intro hh; exact absurd (show false = true from hh) (by decide))]
          exact hK undef _ hG rfl (fun _ _ _ h => h)
         ·have e9 := valsE_get (hp 9 (by decide)) rfl
          simp only [e9] at hK ⊢
          rw [if_neg (by intro hh; exact absurd (show false = true from hh) (by decide))]
          exact hK undef _ hG rfl (fun _ _ _ h => h)
         ·have e9 := valsE_get (hp 9 (by decide)) rfl
          simp only [e9] at hK ⊢
          rw [if_neg (by intro hh; exact absurd (show false = true from hh) (by decide))]
          exact hK undef _ hG rfl (fun _ _ _ h => h)
         ·have e9 := valsE_get (hp 9 (by decide)) rfl
          simp only [e9] at hK ⊢
          rw [if_neg (by intro hh; exact absurd (show false = true from hh) (by decide))]
          exact hK undef _ hG rfl (fun _ _ _ h => h)
         ·have e9 := valsE_get (hp 9 (by decide)) rfl
          simp only [e9] at hK ⊢
          rw [if_neg (by intro hh; exact absurd (show false = true from hh) (by decide))]
          exact hK undef _ hG rfl (fun _ _ _ h => h)
         ·have e9 := valsE_get (hp 9 (by decide)) rfl
          simp only [e9] at hK ⊢
          rw [if_neg (by intro hh; exact absurd (show false = true from hh) (by decide))]
          exact hK undef _ hG rfl (fun _ _ _ h => h)
         ·have e9 := valsE_get (hp 9 (by decide)) rfl
          simp only [e9] at hK ⊢
          rw [if_neg (by intro hh; exact absurd (show false = true from hh) (by decide))]
          exact hK undef _ hG rfl (fun _ _ _ h => h)
         ·have e1 := valsE_get (hp 1 (by decide)) rfl
          simp only [e1] at hK ⊢
          rw [if_neg (by intro hh; exact absurd (show false = true from hh) (by decide))]
          exact hK undef _ hG rfl (fun _ _ _ h => h)
         ·have e1 := valsE_get (hp 1 (by decide)) rfl
          have e18 := valsE_get (hp 18 (by decide)) rfl
          simp only [e1, e18] at hK ⊢
          rw [if_pos (by rfl)]
          go_simp
          exact hK _ _ hG rfl (fun _ _ _ h => h)
        | false =>
         have Hn : Hid ((x.rs.noneTo n.a.size i || rr.noneIn n.a.size (k + 1)) = false) := hide (by rw [Hz.out])
         refine wp_region_last 20 _ (fun W => Below wr2.heap.size wr2 W) (valsE [.bool false, .bool false, .pointer (some ⟨q8, 1, none⟩), .slice (some ⟨rr.T.gb, rr.T.go, none⟩) N rr.T.cap, .int .i64 (k : Int), .pointer (some ⟨rr.T.gb, rr.T.go + k, none⟩), .slice (rr.T.A k) 0 (rr.T.C k), .int .i64 0, .bool false, .bool false, undef, undef, undef, undef, undef, undef, undef, undef, .bool false, .bool false]) (fun v W => v = .bool false ∧ Below wr2.heap.size wr2 W) (fun _ _ _ => True) (by kernel_rfl) (by kernel_rfl) (by kernel_rfl) (by kernel_rfl) (by kernel_rfl) rfl (show Below wr2.heap.size wr2 wr2.drew from ⟨rfl, rfl, rfl, Nat.le_refl _, fun _ _ => rfl⟩) ⟨?_, ?_, ?_, ?_, ?_, ?_, ?_, ?_, ?_, ?_, ?_, ?_, ?_, ?_, ?_, ?_, ?_, ?_, ?_, ?_, trivial⟩ ?_ trivial ?_
         rotate_right
         ·intro t W hG _
          have e20 := hG.1
          have HG' := hide hG.2
          clear hG
          simp only [fill, Act.put, List.setIfInBounds_toArray, List.set_cons_zero, List.set_cons_succ, e20]
          clear e20
          have HB4 := hide (HBr2.out.trans (HG'.out.mono HBr2.out.size))
          clear HG'
          go_wp2
          go_roundw
          case rel =>
           first
           | exact ⟨k + 1, by omega, by go_num, by rw [Hn.out], HLn, HB4⟩
           | ((try rw [← HTga.out]); (repeat apply Exists.intro); refine ⟨?_, rfl⟩; exact ⟨k + 1, by omega, by go_num, by rw [Hn.out], HLn, HB4⟩)
          case measure => simp [intOf]; omega
         rotate_right
         ·intro t W hG hE _ K hK
          have e19 := valsE_get (hE 19 (by omega)) rfl
          simp only [fill, Act.put, List.setIfInBounds_toArray, List.set_cons_zero, List.set_cons_succ, e19] at hK ⊢
          rw [if_pos (by rfl)]
          go_simp
          exact hK _ _ ⟨rfl, hG⟩
         all_goals intro t W hG hp ht K hK
         all_goals have h20 : t 20 = .bool false := ht 20 (by decide)
         all_goals clear ht
         all_goals simp only [fill, Act.put, List.setIfInBounds_toArray, List.set_cons_zero, List.set_cons_succ, h20] at hK ⊢
         all_goals clear h20
         ·rw [if_pos (by rfl)]
          go_simp
          exact hK _ _ hG rfl (fun _ _ _ h => h)
         ·have e0 := valsE_get (hp 0 (by decide)) rfl
          simp only [e0] at hK ⊢
          rw [if_pos (by rfl)]
          go_simp
          exact hK _ _ hG rfl (fun _ _ _ h => h)
         ·have e1 := valsE_get (hp 1 (by decide)) rfl
          simp only [e1] at hK ⊢
          rw [if_pos (by rfl)]
          go_simp
          exact hK _ _ hG rfl (fun _ _ _ h => h)
         ·have e1 := valsE_get (hp 1 (by decide)) rfl
          have e2 := valsE_get (hp 2 (by decide)) rfl
          have cx := (Hbk2.out.below hG Hbk2.out.lt).cell 1
          simp at cx
          simp only [e1, e2] at hK ⊢
          rw [if_pos (by rfl)]
          go_simp
          exact hK _ _ hG rfl (fun _ _ _ h => h)
         ·have e1 := valsE_get (hp 1 (by decide)) rfl
          simp only [e1] at hK ⊢
          rw [if_pos (by rfl)]
          go_simp
          exact hK _ _ hG rfl (fun _ _ _ h => h)
         ·have e1 := valsE_get (hp 1 (by decide)) rfl
          have e3 := valsE_get (hp 3 (by decide)) rfl
          have e4 := valsE_get (hp 4 (by decide)) rfl
          simp only [e1, e3, e4] at hK ⊢
          rw [if_pos (by rfl)]
          go_simp
          exact hK _ _ hG rfl (fun _ _ _ h => h)
         ·have e1 := valsE_get (hp 1 (by decide)) rfl
          have e5 := valsE_get (hp 5 (by decide)) rfl
          have cx := Hrow2.out W hG
          simp only [e1, e5] at hK ⊢
          rw [if_pos (by rfl)]
          go_simp
          exact hK _ _ hG rfl (fun _ _ _ h => h)
         ·have e1 := valsE_get (hp 1 (by decide)) rfl
          have e6 := valsE_get (hp 6 (by decide)) rfl
          simp only [e1, e6] at hK ⊢
          rw [if_pos (by rfl)]
          go_simp
          exact hK _ _ hG rfl (fun _ _ _ h => h)
         ·have e1 := valsE_get (hp 1 (by decide)) rfl
          have e7 := valsE_get (hp 7 (by decide)) rfl
          simp only [e1, e7] at hK ⊢
          rw [if_pos (by rfl)]
          go_simp
          exact hK _ _ hG rfl (fun _ _ _ h => h)
         ·have e1 := valsE_get (hp 1 (by decide)) rfl
          have e8 := valsE_get (hp 8 (by decide)) rfl
          simp only [e1, e8] at hK ⊢
          rw [if_pos (by rfl)]
          go_simp
          exact hK _ _ hG rfl (fun _ _ _ h => h)
         ·have e9 := valsE_get (hp 9 (by decide)) rfl
          simp only [e9] at hK ⊢
          rw [if_neg (by intro hh; exact absurd (show false = true from hh) (by decide))]
          exact hK undef _ hG rfl (fun _ _ _ h => h)
         ·have e9 := valsE_get (hp 9 (by decide)) rfl
          simp only [e9] at hK ⊢
          rw [if_neg (by intro hh; exact absurd (show false = true from hh) (by decide))]
          exact hK undef _ hG rfl (fun _ _ _ h => h)
         ·have e9 := valsE_get (hp 9 (by decide)) rfl
          simp only [e9] at hK ⊢
          rw [if_neg (by intro hh; exact absurd (show false = true from hh) (by decide))]
          exact hK undef _ hG rfl (fun _ _ _ h => h)
         ·have e9 := valsE_get (hp 9 (by decide)) rfl
          simp only [e9] at hK ⊢
          rw [if_neg (by intro hh; exact absurd (show false = true from hh) (by decide))]
          exact hK undef _ hG rfl (fun _ _ _ h => h)
         ·have e9 := valsE_get (hp 9 (by decide)) rfl
          simp only [e9] at hK ⊢
          rw [if_neg (by intro hh; exact absurd (show false = true from hh) (by decide))]
          exact hK undef _ hG rfl (fun _ _ _ h => h)
         ·have e9 := valsE_get (hp 9 (by decide)) rfl
          simp only [e9] at hK ⊢
          rw [if_neg (by intro hh; exact absurd (show false = true from hh) (by decide))]
          exact hK undef _ hG rfl (fun _ _ _ h => h)
         ·have e9 := valsE_get (hp 9 (by decide)) rfl
          simp only [e9] at hK ⊢
          rw [if_neg (by intro hh; exact absurd (show false = true from hh) (by decide))]
          exact hK undef _ hG rfl (fun _ _ _ h => h)
         ·have e9 := valsE_get (hp 9 (by decide)) rfl
          simp only [e9] at hK ⊢
          rw [if_neg (by intro hh; exact absurd (show false = true from hh) (by decide))]
          exact hK undef _ hG rfl (fun _ _ _ h => h)
         ·have e1 := valsE_get (hp 1 (by decide)) rfl
          have e9 := valsE_get (hp 9 (by decide)) rfl
          have e17 := valsE_get (hp 17 (by decide)) rfl
          simp only [e1, e9, e17] at hK ⊢
          rw [if_pos (by rfl)]
          go_simp
          exact hK _ _ hG rfl (fun _ _ _ h => h)
         ·have e1 := valsE_get (hp 1 (by decide)) rfl
          have e18 := valsE_get (hp 18 (by decide)) rfl
          simp only [e1, e18] at hK ⊢
          rw [if_pos (by rfl)]
          go_simp
          exact hK _ _ hG rfl (fun _ _ _ h => h)
       all_goals intro t W hG hp K hK
       all_goals simp only [fill, Act.put, List.setIfInBounds_toArray, List.set_cons_zero, List.set_cons_succ] at hK ⊢
       ·rw [if_pos (by rfl)]
        go_simp
        exact hK _ _ hG rfl (fun _ _ _ h => h)
       ·have e0 := valsE_get (hp 0 (by decide)) rfl
        have cx := (Hbk.out.below hG Hbk.out.lt).cell 1
        simp at cx
        simp only [e0] at hK ⊢
        rw [if_pos (by rfl)]
        go_simp
        exact hK _ _ hG rfl (fun _ _ _ h => h)
       ·rw [if_pos (by rfl)]
        go_simp
        exact hK _ _ hG rfl (fun _ _ _ h => h)
       ·have e1 := valsE_get (hp 1 (by decide)) rfl
        have e2 := valsE_get (hp 2 (by decide)) rfl
        simp only [e1, e2] at hK ⊢
        rw [if_pos (by rfl)]
        go_simp
        exact hK _ _ hG rfl (fun _ _ _ h => h)
       ·have e3 := valsE_get (hp 3 (by decide)) rfl
        have cx := Hrow.out W hG
        simp only [e3] at hK ⊢
        rw [if_pos (by rfl)]
        go_simp
        exact hK _ _ hG rfl (fun _ _ _ h => h)
       ·have e4 := valsE_get (hp 4 (by decide)) rfl
        simp only [e4] at hK ⊢
        rw [if_pos (by rfl)]
        go_simp
        exact hK _ _ hG rfl (fun _ _ _ h => h)
       ·have e5 := valsE_get (hp 5 (by decide)) rfl
        simp only [e5] at hK ⊢
        rw [if_pos (by rfl)]
        go_simp
        exact hK _ _ hG rfl (fun _ _ _ h => h)
       ·have e6 := valsE_get (hp 6 (by decide)) rfl
        simp only [e6] at hK ⊢
        rw [if_pos (by rfl)]
        go_simp
        exact hK _ _ hG rfl (fun _ _ _ h => h)
       ·have e7 := valsE_get (hp 7 (by decide)) rfl
        simp only [e7] at hK ⊢
        rw [if_neg (by intro hh; exact absurd (show false = true from hh) (by decide))]
        exact hK undef _ hG rfl (fun _ _ _ h => h)
       ·have e7 := valsE_get (hp 7 (by decide)) rfl
        simp only [e7] at hK ⊢
        rw [if_neg (by intro hh; exact absurd (show false = true from hh) (by decide))]
        exact hK undef _ hG rfl (fun _ _ _ h => h)
       ·have e7 := valsE_get (hp 7 (by decide)) rfl
        simp only [e7] at hK ⊢
        rw [if_neg (by intro hh; exact absurd (show false = true from hh) (by decide))]
        exact hK undef _ hG rfl (fun _ _ _ h => h)
       ·have e7 := valsE_get (hp 7 (by decide)) rfl
        simp only [e7] at hK ⊢
        rw [if_neg (by intro hh; exact absurd (show false = true from hh) (by decide))]
        exact hK undef _ hG rfl (fun _ _ _ h => h)
       ·have e7 := valsE_get (hp 7 (by decide)) rfl
        simp only [e7] at hK ⊢
        rw [if_neg (by intro hh; exact absurd (show false = true from hh) (by decide))]
        exact hK undef _ hG rfl (fun _ _ _ h => h)
       ·have e7 := valsE_get (hp 7 (by decide)) rfl
        simp only [e7] at hK ⊢
        rw [if_neg (by intro hh; exact absurd (show false = true from hh) (by decide))]
        exact hK undef _ hG rfl (fun _ _ _ h => h)
       ·have e7 := valsE_get (hp 7 (by decide)) rfl
        simp only [e7] at hK ⊢
        rw [if_neg (by intro hh; exact absurd (show false = true from hh) (by decide))]
        exact hK undef _ hG rfl (fun _ _ _ h => h)
       ·have e7 := valsE_get (hp 7 (by decide)) rfl
        simp only [e7] at hK ⊢
        rw [if_neg (by intro hh; exact absurd (show false = true from hh) (by decide))]
        exact hK undef _ hG rfl (fun _ _ _ h => h)
       ·have e7 := valsE_get (hp 7 (by decide)) rfl
        simp only [e7] at hK ⊢
        rw [if_neg (by intro hh; exact absurd (show false = true from hh) (by decide))]
        exact hK undef _ hG rfl (fun _ _ _ h => h)
       ·have e7 := valsE_get (hp 7 (by decide)) rfl
        have e16 := valsE_get (hp 16 (by decide)) rfl
        simp only [e7, e16] at hK ⊢
        rw [if_pos (by rfl)]
        go_simp
        exact hK _ _ hG rfl (fun _ _ _ h => h)
      by_cases hlN : lk = N
      rotate_left
      ·have h0i : (0 : Int) < (lk : Int) := by omega
       have hne : ((lk : Int) == (N : Int)) = false := by simp; omega
       have Hf := hide (Hbad.out (Or.inr (Or.inr ⟨k, by rw [H1.out]; exact hkl, by rw [← Hlk.out]; exact hl0, by rw [← Hlk.out]; exact hlN⟩)))
       clear hl0 hlN Hlk HL Hnext
       go_wp2_with fail
       clear n0 n1 n2 n3 n4
       refine wp_region_only (fun W => Below wr.heap.size wr W) (valsE [.pointer (some ⟨q8, 1, none⟩), .slice (some ⟨rr.T.gb, rr.T.go, none⟩) N rr.T.cap, .int .i64 (k : Int), .pointer (some ⟨rr.T.gb, rr.T.go + k, none⟩), .slice (rr.T.A k) lk (rr.T.C k), .int .i64 (lk : Int), .bool true, .bool true, .pointer (some ⟨q8, 1, none⟩), .slice (some ⟨rr.T.gb, rr.T.go, none⟩) N rr.T.cap, .int .i64 (k : Int), .pointer (some ⟨rr.T.gb, rr.T.go + k, none⟩), .slice (rr.T.A k) lk (rr.T.C k), .int .i64 (lk : Int), .pointer (some ⟨w.heap.size, 3, none⟩), .int .i64 (N : Int), .bool true, .bool true]) (by kernel_rfl) (by kernel_rfl) (by kernel_rfl) (⟨rfl, rfl, rfl, Nat.le_refl _, fun _ _ => rfl⟩) ⟨?_, ?_, ?_, ?_, ?_, ?_, ?_, ?_, ?_, ?_, ?_, ?_, ?_, ?_, ?_, ?_, ?_, ?_, trivial⟩ ?_
       rotate_right
       ·intro t W hG hE
        have e17 := valsE_get (hE 17 (by decide)) rfl
        have HG' := hide hG
        clear hE hG
        simp only [fill, Act.put, List.setIfInBounds_toArray, List.set_cons_zero, List.set_cons_succ, e17]
        clear e17
        have HB := hide (HGk.out.keep HG'.out).below
        go_wp2
        go_ret
        exact ⟨by rw [Hf.out]; rfl, HB.out⟩
       all_goals intro t W hG hp K hK
       all_goals simp only [fill, Act.put, List.setIfInBounds_toArray, List.set_cons_zero, List.set_cons_succ] at hK ⊢
       ·rw [if_pos (by rfl)]
        go_simp
        exact hK _ _ hG rfl (fun _ _ _ h => h)
       ·have e0 := valsE_get (hp 0 (by decide)) rfl
        have cx := (Hbk.out.below hG Hbk.out.lt).cell 1
        simp at cx
        simp only [e0] at hK ⊢
        rw [if_pos (by rfl)]
        go_simp
        exact hK _ _ hG rfl (fun _ _ _ h => h)
       ·rw [if_pos (by rfl)]
        go_simp
        exact hK _ _ hG rfl (fun _ _ _ h => h)
       ·have e1 := valsE_get (hp 1 (by decide)) rfl
        have e2 := valsE_get (hp 2 (by decide)) rfl
        simp only [e1, e2] at hK ⊢
        rw [if_pos (by rfl)]
        go_simp
        exact hK _ _ hG rfl (fun _ _ _ h => h)
       ·have e3 := valsE_get (hp 3 (by decide)) rfl
        have cx := Hrow.out W hG
        simp only [e3] at hK ⊢
        rw [if_pos (by rfl)]
        go_simp
        exact hK _ _ hG rfl (fun _ _ _ h => h)
       ·have e4 := valsE_get (hp 4 (by decide)) rfl
        simp only [e4] at hK ⊢
        rw [if_pos (by rfl)]
        go_simp
        exact hK _ _ hG rfl (fun _ _ _ h => h)
       ·have e5 := valsE_get (hp 5 (by decide)) rfl
        simp only [e5] at hK ⊢
        rw [if_pos (by rfl)]
        have h0n : decide (0 < lk) = true := decide_eq_true (by omega)
        go_simp
        exact hK _ _ hG rfl (fun _ _ _ h => h)
       ·have e6 := valsE_get (hp 6 (by decide)) rfl
        simp only [e6] at hK ⊢
        rw [if_pos (by rfl)]
        go_simp
        exact hK _ _ hG rfl (fun _ _ _ h => h)
       ·have e7 := valsE_get (hp 7 (by decide)) rfl
        simp only [e7] at hK ⊢
        rw [if_pos (by rfl)]
        go_simp
        exact hK _ _ hG rfl (fun _ _ _ h => h)
       ·have e7 := valsE_get (hp 7 (by decide)) rfl
        have e8 := valsE_get (hp 8 (by decide)) rfl
        have cx := (Hbk.out.below hG Hbk.out.lt).cell 1
        simp at cx
        simp only [e7, e8] at hK ⊢
        rw [if_pos (by rfl)]
        go_simp
        exact hK _ _ hG rfl (fun _ _ _ h => h)
       ·have e7 := valsE_get (hp 7 (by decide)) rfl
        simp only [e7] at hK ⊢
        rw [if_pos (by rfl)]
        go_simp
        exact hK _ _ hG rfl (fun _ _ _ h => h)
       ·have e7 := valsE_get (hp 7 (by decide)) rfl
        have e9 := valsE_get (hp 9 (by decide)) rfl
        have e10 := valsE_get (hp 10 (by decide)) rfl
        simp only [e7, e9, e10] at hK ⊢
        rw [if_pos (by rfl)]
        go_simp
        exact hK _ _ hG rfl (fun _ _ _ h => h)
       ·have e7 := valsE_get (hp 7 (by decide)) rfl
        have e11 := valsE_get (hp 11 (by decide)) rfl
        have cx := Hrow.out W hG
        simp only [e7, e11] at hK ⊢
        rw [if_pos (by rfl)]
        go_simp
        exact hK _ _ hG rfl (fun _ _ _ h => h)
       ·have e7 := valsE_get (hp 7 (by decide)) rfl
        have e12 := valsE_get (hp 12 (by decide)) rfl
        simp only [e7, e12] at hK ⊢
        rw [if_pos (by rfl)]
        go_simp
        exact hK _ _ hG rfl (fun _ _ _ h => h)
       ·have e7 := valsE_get (hp 7 (by decide)) rfl
        simp only [e7] at hK ⊢
        rw [if_pos (by rfl)]
        go_simp
        exact hK _ _ hG rfl (fun _ _ _ h => h)
       ·have e7 := valsE_get (hp 7 (by decide)) rfl
        have e14 := valsE_get (hp 14 (by decide)) rfl
        have cx := (HGk.out.keep hG).bn.cell 3
        rw [Hnc.out] at cx
        simp at cx
        simp only [e7, e14] at hK ⊢
        rw [if_pos (by rfl)]
        go_simp
        exact hK _ _ hG rfl (fun _ _ _ h => h)
       ·have e7 := valsE_get (hp 7 (by decide)) rfl
        have e13 := valsE_get (hp 13 (by decide)) rfl
        have e15 := valsE_get (hp 15 (by decide)) rfl
        simp only [e7, e13, e15] at hK ⊢
        rw [if_pos (by rfl)]
        have hnn9 : ((lk : Int) != (N : Int)) = true := by rw [bne, hne]; rfl
        go_simp
        first | exact hK _ _ hG rfl (fun _ _ _ h => h) | exact hK _ _ hG (by rw [hnn9]; rfl) (fun _ _ _ h => h)
       ·have e7 := valsE_get (hp 7 (by decide)) rfl
        have e16 := valsE_get (hp 16 (by decide)) rfl
        simp only [e7, e16] at hK ⊢
        rw [if_pos (by rfl)]
        go_simp
        exact hK _ _ hG rfl (fun _ _ _ h => h)
      have h0i : (0 : Int) < (N : Int) := by omega
      rw [hlN] at Hnext Hrow Hlk
      have HLn : Hid (∀ q, q < k + 1 → rr.T.t.L q = 0 ∨ rr.T.t.L q = N) := hide (fun q hq => by
       by_cases e : q = k
       ·rw [e]; exact Or.inr Hlk.out.symm
       ·exact HL.out q (by omega))
      obtain ⟨rv, hrv⟩ : ∃ rv, rv = n.net.row N (rr.T.t.Z k) := ⟨_, rfl⟩
      have Hrv5 : Hid ((rv == 5) = !rowIn N (rr.T.t.Z k) n.a.size) := hide (by rw [hrv]; exact n.net.row_five N _ Hnn.out.symm)
      have HCk := hide (fun W (hb : Below wr.heap.size wr W) => HRw.out (rr.T.A k) N (rr.T.C k) (rr.T.RB k) (rr.T.RO k) (rr.T.t.Z k) W (by have := (Hin.out W hb).T.ints (r := k) (by rw [H1.out]; exact hkl); rwa [← Hlk.out] at this) (fun _ => Nat.lt_of_lt_of_le ((Hin.out W hb).T.addr k (by rw [H1.out]; exact hkl) (by rw [← Hlk.out]; exact hN0)).2 (HGk.out.keep hb).below.size))
      rw [← hrv] at HCk
      clear hl0 hlN Hlk HL hrv
      go_wp2_with fail
      clear n0 n1 n2 n3 n4
      refine wp_region_only (fun W => Below wr.heap.size wr W) (valsE [.pointer (some ⟨q8, 1, none⟩), .slice (some ⟨rr.T.gb, rr.T.go, none⟩) N rr.T.cap, .int .i64 (k : Int), .pointer (some ⟨rr.T.gb, rr.T.go + k, none⟩), .slice (rr.T.A k) N (rr.T.C k), .int .i64 (N : Int), .bool true, .bool true, .pointer (some ⟨q8, 1, none⟩), .slice (some ⟨rr.T.gb, rr.T.go, none⟩) N rr.T.cap, .int .i64 (k : Int), .pointer (some ⟨rr.T.gb, rr.T.go + k, none⟩), .slice (rr.T.A k) N (rr.T.C k), .int .i64 (N : Int), .pointer (some ⟨w.heap.size, 3, none⟩), .int .i64 (N : Int), .bool false, .bool false]) (by kernel_rfl) (by kernel_rfl) (by kernel_rfl) (⟨rfl, rfl, rfl, Nat.le_refl _, fun _ _ => rfl⟩) ⟨?_, ?_, ?_, ?_, ?_, ?_, ?_, ?_, ?_, ?_, ?_, ?_, ?_, ?_, ?_, ?_, ?_, ?_, trivial⟩ ?_
      rotate_right
      ·intro t W hG hE
       have e17 := valsE_get (hE 17 (by decide)) rfl
       have HG' := hide hG
       clear hE hG
       simp only [fill, Act.put, List.setIfInBounds_toArray, List.set_cons_zero, List.set_cons_succ, e17]
       clear e17
       obtain ⟨wr2, hwr2⟩ : ∃ wr2, wr2 = W := ⟨_, rfl⟩
       rw [← hwr2] at HG' ⊢
       clear hwr2
       have HBr2 := hide (HBr.out.trans (HG'.out.mono HBr.out.size))
       have HGk2 := hide (HGk.out.keep HG'.out)
       have Hbk2 := hide (Hbk.out.below HG'.out Hbk.out.lt)
       have Hrow2 := hide (fun W (hb : Below wr2.heap.size wr2 W) => Hrow.out W (HG'.out.trans (hb.mono HG'.out.size)))
       have HCk2 := hide (fun W (hb : Below wr2.heap.size wr2 W) => HCk.out W (HG'.out.trans (hb.mono HG'.out.size)))
       clear HG'
       go_wp2_with fail
       clear HBr HGk Hbk Hrow HCk
       cases fb with
       | true =>
        have Hn : Hid ((x.rs.noneTo n.a.size i || rr.noneIn n.a.size (k + 1)) = true) := hide (by rw [Hnext.out, Bool.true_or])
        refine wp_region_last 20 _ (fun W => Below wr2.heap.size wr2 W) (valsE [.bool true, .bool true, undef, undef, undef, undef, undef, undef, undef, undef, undef, undef, undef, undef, undef, undef, undef, undef, undef, .bool true]) (fun v W => v = .bool true ∧ Below wr2.heap.size wr2 W) (fun _ _ _ => True) (by kernel_rfl) (by kernel_rfl) (by kernel_rfl) (by kernel_rfl) (by kernel_rfl) rfl (show Below wr2.heap.size wr2 wr2.drew from ⟨rfl, rfl, rfl, Nat.le_refl _, fun _ _ => rfl⟩) ⟨?_, ?_, ?_, ?_, ?_, ?_, ?_, ?_, ?_, ?_, ?_, ?_, ?_, ?_, ?_, ?_, ?_, ?_, ?_, ?_, trivial⟩ ?_ trivial ?_
        rotate_right
        ·intro t W hG _
         have e20 := hG.1
         have HG' := hide hG.2
         clear hG
         simp only [fill, Act.put, List.setIfInBounds_toArray, List.set_cons_zero, List.set_cons_succ, e20]
         clear e20
         have HB4 := hide (HBr2.out.trans (HG'.out.mono HBr2.out.size))
         clear HG'
         go_wp2
         go_roundw
         case rel =>
          first
          | exact ⟨k + 1, by omega, by go_num, by rw [Hn.out], HLn, HB4⟩
          | ((try rw [← HTga.out]); (repeat apply Exists.intro); refine ⟨?_, rfl⟩; exact ⟨k + 1, by omega, by go_num, by rw [Hn.out], HLn, HB4⟩)
         case measure => simp [intOf]; omega
        rotate_right
        ·intro t W hG hE _ K hK
         have e19 := valsE_get (hE 19 (by omega)) rfl
         simp only [fill, Act.put, List.setIfInBounds_toArray, List.set_cons_zero, List.set_cons_succ, e19] at hK ⊢
         rw [if_pos (by rfl)]
         go_simp
         exact hK _ _ ⟨rfl, hG⟩
        all_goals intro t W hG hp ht K hK
        all_goals have h20 : t 20 = .bool true := ht 20 (by decide)
        all_goals clear ht
        all_goals simp only [fill, Act.put, List.setIfInBounds_toArray, List.set_cons_zero, List.set_cons_succ, h20] at hK ⊢
        all_goals clear h20
        ·rw [if_pos (by rfl)]
         go_simp
         exact hK _ _ hG rfl (fun _ _ _ h => h)
        ·have e0 := valsE_get (hp 0 (by decide)) rfl
         simp only [e0] at hK ⊢
         rw [if_pos (by rfl)]
         go_simp
         exact hK _ _ hG rfl (fun _ _ _ h => h)
        ·have e1 := valsE_get (hp 1 (by decide)) rfl
         simp only [e1] at hK ⊢
         rw [if_neg (by intro hh; exact absurd (show false = true from hh) (by decide))]
         exact hK undef _ hG rfl (fun _ _ _ h => h)
        ·have e1 := valsE_get (hp 1 (by decide)) rfl
         simp only [e1] at hK ⊢
         rw [if_neg (by intro hh; exact absurd (show false = true from hh) (by decide))]
         exact hK undef _ hG rfl (fun _ _ _ h => h)
        ·have e1 := valsE_get (hp 1 (by decide)) rfl
         simp only [e1] at hK ⊢
         rw [if_neg (by intro hh; exact absurd (show false = true from hh) (by decide))]
         exact hK undef _ hG rfl (fun _ _ _ h => h)
        ·have e1 := valsE_get (hp 1 (by decide)) rfl
         simp only [e1] at hK ⊢
         rw [if_neg (by intro hh; exact absurd (show false = true from hh) (by decide))]
         exact hK undef _ hG rfl (fun _ _ _ h => h)
        ·have e1 := valsE_get (hp 1 (by decide)) rfl
         simp only [e1] at hK ⊢
         rw [if_neg (by intro hh; exact absurd (show false = true from hh) (by decide))]
         exact hK undef _ hG rfl (fun _ _ _ h => h)
        ·have e1 := valsE_get (hp 1 (by decide)) rfl
         simp only [e1] at hK ⊢
         rw [if_neg (by intro hh; exact absurd (show false = true from hh) (by decide))]
         exact hK undef _ hG rfl (fun _ _ _ h => h)
        ·have e1 := valsE_get (hp 1 (by decide)) rfl
         simp only [e1] at hK ⊢
         rw [if_neg (by intro hh; exact absurd (show false = true from hh) (by decide))]
         exact hK undef _ hG rfl (fun _ _ _ h => h)
        ·have e1 := valsE_get (hp 1 (by decide)) rfl
         simp only [e1] at hK ⊢
         rw [if_neg (by intro hh; exact absurd (show false = true from hh) (by decide))]
         exact hK undef _ hG rfl (fun _ _ _ h => h)
        ·have e9 := valsE_get (hp 9 (by decide)) rfl
         simp only [e9] at hK ⊢
         rw [if_neg (by intro hh; exact absurd (show false = true from hh) (by decide))]
         exact hK undef _ hG rfl (fun _ _ _ h => h)
        ·have e9 := valsE_get (hp 9 (by decide)) rfl
         simp only [e9] at hK ⊢
         rw [if_neg (by intro hh; exact absurd (show false = true from hh) (by decide))]
         exact hK undef _ hG rfl (fun _ _ _ h => h)
        ·have e9 := valsE_get (hp 9 (by decide)) rfl
         simp only [e9] at hK ⊢
         rw [if_neg (by intro hh; exact absurd (show false = true from hh) (by decide))]
         exact hK undef _ hG rfl (fun _ _ _ h => h)
        ·have e9 := valsE_get (hp 9 (by decide)) rfl
         simp only [e9] at hK ⊢
         rw [if_neg (by intro hh; exact absurd (show false = true from hh) (by decide))]
         exact hK undef _ hG rfl (fun _ _ _ h => h)
        ·have e9 := valsE_get (hp 9 (by decide)) rfl
         simp only [e9] at hK ⊢
         rw [if_neg (by intro hh; exact absurd (show false = true from hh) (by decide))]
         exact hK undef _ hG rfl (fun _ _ _ h => h)
        ·have e9 := valsE_get (hp 9 (by decide)) rfl
         simp only [e9] at hK ⊢
         rw [if_neg (by intro hh; exact absurd (show false = true from hh) (by decide))]
         exact hK undef _ hG rfl (fun _ _ _ h => h)
        ·have e9 := valsE_get (hp 9 (by decide)) rfl
         simp only [e9] at hK ⊢
         rw [if_neg (by intro hh; exact absurd (show false = true from hh) (by decide))]
         exact hK undef _ hG rfl (fun _ _ _ h => h)
        ·have e9 := valsE_get (hp 9 (by decide)) rfl
         simp only [e9] at hK ⊢
         rw [if_neg (by intro hh; exact absurd (show false = true from hh) (by decide))]
         exact hK undef _ hG rfl (fun _ _ _ h => h)
        ·have e1 := valsE_get (hp 1 (by decide)) rfl
         simp only [e1] at hK ⊢
         rw [if_neg (by intro hh; exact absurd (show false = true from hh) (by decide))]
         exact hK undef _ hG rfl (fun _ _ _ h => h)
        ·have e1 := valsE_get (hp 1 (by decide)) rfl
         have e18 := valsE_get (hp 18 (by decide)) rfl
         simp only [e1, e18] at hK ⊢
         rw [if_pos (by rfl)]
         go_simp
         exact hK _ _ hG rfl (fun _ _ _ h => h)
       | false =>
        have Hn : Hid ((x.rs.noneTo n.a.size i || rr.noneIn n.a.size (k + 1)) = (rv == 5)) := hide (by rw [Hnext.out, Bool.false_or, ← Hrv5.out])
        refine wp_region_last 20 _ (fun W => Below wr2.heap.size wr2 W) (valsE [.bool false, .bool false, .pointer (some ⟨q8, 1, none⟩), .slice (some ⟨rr.T.gb, rr.T.go, none⟩) N rr.T.cap, .int .i64 (k : Int), .pointer (some ⟨rr.T.gb, rr.T.go + k, none⟩), .slice (rr.T.A k) N (rr.T.C k), .int .i64 (N : Int), .bool true, .bool true, .agg #[.int .i64 n.a.size, .slice n.a.B.ga n.a.B.t.len n.a.B.cap, .slice n.a.E.ga n.a.E.t.len n.a.E.cap, .int .i64 (N : Int), .slice n.la n.ln n.lc], .pointer (some ⟨q8, 1, none⟩), .slice (some ⟨rr.T.gb, rr.T.go, none⟩) N rr.T.cap, .int .i64 (k : Int), .pointer (some ⟨rr.T.gb, rr.T.go + k, none⟩), .slice (rr.T.A k) N (rr.T.C k), .int .i64 rv, .bool (rv == 5), .bool (rv == 5), .bool (rv == 5)]) (fun v W => v = .bool (rv == 5) ∧ Below wr2.heap.size wr2 W) (fun _ _ _ => True) (by kernel_rfl) (by kernel_rfl) (by kernel_rfl) (by kernel_rfl) (by kernel_rfl) rfl (show Below wr2.heap.size wr2 wr2.drew from ⟨rfl, rfl, rfl, Nat.le_refl _, fun _ _ => rfl⟩) ⟨?_, ?_, ?_, ?_, ?_, ?_, ?_, ?_, ?_, ?_, ?_, ?_, ?_, ?_, ?_, ?_, ?_, ?_, ?_, ?_, trivial⟩ ?_ trivial ?_
        rotate_right
        ·intro t W hG _
         have e20 := hG.1
         have HG' := hide hG.2
         clear hG
         simp only [fill, Act.put, List.setIfInBounds_toArray, List.set_cons_zero, List.set_cons_succ, e20]
         clear e20
         have HB4 := hide (HBr2.out.trans (HG'.out.mono HBr2.out.size))
         clear HG'
         go_wp2
         go_roundw
         case rel =>
          first
          | exact ⟨k + 1, by omega, by go_num, by rw [Hn.out], HLn, HB4⟩
          | ((try rw [← HTga.out]); (repeat apply Exists.intro); refine ⟨?_, rfl⟩; exact ⟨k + 1, by omega, by go_num, by rw [Hn.out], HLn, HB4⟩)
         case measure => simp [intOf]; omega
        rotate_right
        ·intro t W hG hE _ K hK
         have e19 := valsE_get (hE 19 (by omega)) rfl
         simp only [fill, Act.put, List.setIfInBounds_toArray, List.set_cons_zero, List.set_cons_succ, e19] at hK ⊢
         rw [if_pos (by rfl)]
         go_simp
         exact hK _ _ ⟨rfl, hG⟩
        all_goals intro t W hG hp ht K hK
        all_goals have h20 : t 20 = .bool false := ht 20 (by decide)
        all_goals clear ht
        all_goals simp only [fill, Act.put, List.setIfInBounds_toArray, List.set_cons_zero, List.set_cons_succ, h20] at hK ⊢
        all_goals clear h20
        ·rw [if_pos (by rfl)]
         go_simp
         exact hK _ _ hG rfl (fun _ _ _ h => h)
        ·have e0 := valsE_get (hp 0 (by decide)) rfl
         simp only [e0] at hK ⊢
         rw [if_pos (by rfl)]
         go_simp
         exact hK _ _ hG rfl (fun _ _ _ h => h)
        ·have e1 := valsE_get (hp 1 (by decide)) rfl
         simp only [e1] at hK ⊢
         rw [if_pos (by rfl)]
         go_simp
         exact hK _ _ hG rfl (fun _ _ _ h => h)
        ·have e1 := valsE_get (hp 1 (by decide)) rfl
         have e2 := valsE_get (hp 2 (by decide)) rfl
         have cx := (Hbk2.out.below hG Hbk2.out.lt).cell 1
         simp at cx
         simp only [e1, e2] at hK ⊢
         rw [if_pos (by rfl)]
         go_simp
         exact hK _ _ hG rfl (fun _ _ _ h => h)
        ·have e1 := valsE_get (hp 1 (by decide)) rfl
         simp only [e1] at hK ⊢
         rw [if_pos (by rfl)]
         go_simp
         exact hK _ _ hG rfl (fun _ _ _ h => h)
        ·have e1 := valsE_get (hp 1 (by decide)) rfl
         have e3 := valsE_get (hp 3 (by decide)) rfl
         have e4 := valsE_get (hp 4 (by decide)) rfl
         simp only [e1, e3, e4] at hK ⊢
         rw [if_pos (by rfl)]
         go_simp
         exact hK _ _ hG rfl (fun _ _ _ h => h)
        ·have e1 := valsE_get (hp 1 (by decide)) rfl
         have e5 := valsE_get (hp 5 (by decide)) rfl
         have cx := Hrow2.out W hG
         simp only [e1, e5] at hK ⊢
         rw [if_pos (by rfl)]
         go_simp
         exact hK _ _ hG rfl (fun _ _ _ h => h)
        ·have e1 := valsE_get (hp 1 (by decide)) rfl
         have e6 := valsE_get (hp 6 (by decide)) rfl
         simp only [e1, e6] at hK ⊢
         rw [if_pos (by rfl)]
         go_simp
         exact hK _ _ hG rfl (fun _ _ _ h => h)
        ·have e1 := valsE_get (hp 1 (by decide)) rfl
         have e7 := valsE_get (hp 7 (by decide)) rfl
         simp only [e1, e7] at hK ⊢
         rw [if_pos (by rfl)]
         go_simp
         exact hK _ _ hG rfl (fun _ _ _ h => h)
        ·have e1 := valsE_get (hp 1 (by decide)) rfl
         have e8 := valsE_get (hp 8 (by decide)) rfl
         simp only [e1, e8] at hK ⊢
         rw [if_pos (by rfl)]
         go_simp
         exact hK _ _ hG rfl (fun _ _ _ h => h)
        ·have e9 := valsE_get (hp 9 (by decide)) rfl
         have cn := (HGk2.out.keep hG).bn
         have c0 := cn.cell 0
         have c1 := cn.cell 1
         have c2 := cn.cell 2
         have c3 := cn.cell 3
         have c4 := cn.cell 4
         rw [Hnc.out] at c0 c1 c2 c3 c4
         simp at c0 c1 c2 c3 c4
         clear cn
         simp only [e9] at hK ⊢
         rw [if_pos (by rfl)]
         go_simp
         exact hK _ _ hG rfl (fun _ _ _ h => h)
        ·have e9 := valsE_get (hp 9 (by decide)) rfl
         simp only [e9] at hK ⊢
         rw [if_pos (by rfl)]
         go_simp
         exact hK _ _ hG rfl (fun _ _ _ h => h)
        ·have e9 := valsE_get (hp 9 (by decide)) rfl
         have e11 := valsE_get (hp 11 (by decide)) rfl
         have cx := (Hbk2.out.below hG Hbk2.out.lt).cell 1
         simp at cx
         simp only [e9, e11] at hK ⊢
         rw [if_pos (by rfl)]
         go_simp
         exact hK _ _ hG rfl (fun _ _ _ h => h)
        ·have e9 := valsE_get (hp 9 (by decide)) rfl
         simp only [e9] at hK ⊢
         rw [if_pos (by rfl)]
         go_simp
         exact hK _ _ hG rfl (fun _ _ _ h => h)
        ·have e9 := valsE_get (hp 9 (by decide)) rfl
         have e12 := valsE_get (hp 12 (by decide)) rfl
         have e13 := valsE_get (hp 13 (by decide)) rfl
         simp only [e9, e12, e13] at hK ⊢
         rw [if_pos (by rfl)]
         go_simp
         exact hK _ _ hG rfl (fun _ _ _ h => h)
        ·have e9 := valsE_get (hp 9 (by decide)) rfl
         have e14 := valsE_get (hp 14 (by decide)) rfl
         have cx := Hrow2.out W hG
         simp only [e9, e14] at hK ⊢
         rw [if_pos (by rfl)]
         go_simp
         exact hK _ _ hG rfl (fun _ _ _ h => h)
        ·have e9 := valsE_get (hp 9 (by decide)) rfl
         have e10 := valsE_get (hp 10 (by decide)) rfl
         have e15 := valsE_get (hp 15 (by decide)) rfl
         simp only [e9, e10, e15] at hK ⊢
         rw [if_pos (by rfl)]
         go_simp
         go_at_call 26
         refine (HCk2.out W hG).mono ?_
         rintro r W' ⟨rfl, hb'⟩
         go_simp
         exact hK _ W' (hG.trans (hb'.mono hG.size)) rfl (fun _ _ _ h => h)
        ·have e9 := valsE_get (hp 9 (by decide)) rfl
         have e16 := valsE_get (hp 16 (by decide)) rfl
         simp only [e9, e16] at hK ⊢
         rw [if_pos (by rfl)]
         go_simp
         exact hK _ _ hG rfl (fun _ _ _ h => h)
        ·have e1 := valsE_get (hp 1 (by decide)) rfl
         have e9 := valsE_get (hp 9 (by decide)) rfl
         have e17 := valsE_get (hp 17 (by decide)) rfl
         simp only [e1, e9, e17] at hK ⊢
         rw [if_pos (by rfl)]
         go_simp
         exact hK _ _ hG rfl (fun _ _ _ h => h)
        ·have e1 := valsE_get (hp 1 (by decide)) rfl
         have e18 := valsE_get (hp 18 (by decide)) rfl
         simp only [e1, e18] at hK ⊢
         rw [if_pos (by rfl)]
         go_simp
         exact hK _ _ hG rfl (fun _ _ _ h => h)
      all_goals intro t W hG hp K hK
      all_goals simp only [fill, Act.put, List.setIfInBounds_toArray, List.set_cons_zero, List.set_cons_succ] at hK ⊢
      ·rw [if_pos (by rfl)]
       go_simp
       exact hK _ _ hG rfl (fun _ _ _ h => h)
      ·have e0 := valsE_get (hp 0 (by decide)) rfl
       have cx := (Hbk.out.below hG Hbk.out.lt).cell 1
       simp at cx
       simp only [e0] at hK ⊢
       rw [if_pos (by rfl)]
       go_simp
       exact hK _ _ hG rfl (fun _ _ _ h => h)
      ·rw [if_pos (by rfl)]
       go_simp
       exact hK _ _ hG rfl (fun _ _ _ h => h)
      ·have e1 := valsE_get (hp 1 (by decide)) rfl
       have e2 := valsE_get (hp 2 (by decide)) rfl
       simp only [e1, e2] at hK ⊢
       rw [if_pos (by rfl)]
       go_simp
       exact hK _ _ hG rfl (fun _ _ _ h => h)
      ·have e3 := valsE_get (hp 3 (by decide)) rfl
       have cx := Hrow.out W hG
       simp only [e3] at hK ⊢
       rw [if_pos (by rfl)]
       go_simp
       exact hK _ _ hG rfl (fun _ _ _ h => h)
      ·have e4 := valsE_get (hp 4 (by decide)) rfl
       simp only [e4] at hK ⊢
       rw [if_pos (by rfl)]
       go_simp
       exact hK _ _ hG rfl (fun _ _ _ h => h)
      ·have e5 := valsE_get (hp 5 (by decide)) rfl
       simp only [e5] at hK ⊢
       rw [if_pos (by rfl)]
       go_simp
       exact hK _ _ hG rfl (fun _ _ _ h => h)
      ·have e6 := valsE_get (hp 6 (by decide)) rfl
       simp only [e6] at hK ⊢
       rw [if_pos (by rfl)]
       go_simp
       exact hK _ _ hG rfl (fun _ _ _ h => h)
      ·have e7 := valsE_get (hp 7 (by decide)) rfl
       simp only [e7] at hK ⊢
       rw [if_pos (by rfl)]
       go_simp
       exact hK _ _ hG rfl (fun _ _ _ h => h)
      ·have e7 := valsE_get (hp 7 (by decide)) rfl
       have e8 := valsE_get (hp 8 (by decide)) rfl
       have cx := (Hbk.out.below hG Hbk.out.lt).cell 1
       simp at cx
       simp only [e7, e8] at hK ⊢
       rw [if_pos (by rfl)]
       go_simp
       exact hK _ _ hG rfl (fun _ _ _ h => h)
      ·have e7 := valsE_get (hp 7 (by decide)) rfl
       simp only [e7] at hK ⊢
       rw [if_pos (by rfl)]
       go_simp
       exact hK _ _ hG rfl (fun _ _ _ h => h)
      ·have e7 := valsE_get (hp 7 (by decide)) rfl
       have e9 := valsE_get (hp 9 (by decide)) rfl
       have e10 := valsE_get (hp 10 (by decide)) rfl
       simp only [e7, e9, e10] at hK ⊢
       rw [if_pos (by rfl)]
       go_simp
       exact hK _ _ hG rfl (fun _ _ _ h => h)
      ·have e7 := valsE_get (hp 7 (by decide)) rfl
       have e11 := valsE_get (hp 11 (by decide)) rfl
       have cx := Hrow.out W hG
       simp only [e7, e11] at hK ⊢
       rw [if_pos (by rfl)]
       go_simp
       exact hK _ _ hG rfl (fun _ _ _ h => h)
      ·have e7 := valsE_get (hp 7 (by decide)) rfl
       have e12 := valsE_get (hp 12 (by decide)) rfl
       simp only [e7, e12] at hK ⊢
       rw [if_pos (by rfl)]
       go_simp
       exact hK _ _ hG rfl (fun _ _ _ h => h)
      ·have e7 := valsE_get (hp 7 (by decide)) rfl
       simp only [e7] at hK ⊢
       rw [if_pos (by rfl)]
       go_simp
       exact hK _ _ hG rfl (fun _ _ _ h => h)
      ·have e7 := valsE_get (hp 7 (by decide)) rfl
       have e14 := valsE_get (hp 14 (by decide)) rfl
       have cx := (HGk.out.keep hG).bn.cell 3
       rw [Hnc.out] at cx
       simp at cx
       simp only [e7, e14] at hK ⊢
       rw [if_pos (by rfl)]
       go_simp
       exact hK _ _ hG rfl (fun _ _ _ h => h)
      ·have e7 := valsE_get (hp 7 (by decide)) rfl
       have e13 := valsE_get (hp 13 (by decide)) rfl
       have e15 := valsE_get (hp 15 (by decide)) rfl
       simp only [e7, e13, e15] at hK ⊢
       rw [if_pos (by rfl)]
       go_simp
       exact hK _ _ hG rfl (fun _ _ _ h => h)
      ·have e7 := valsE_get (hp 7 (by decide)) rfl
       have e16 := valsE_get (hp 16 (by decide)) rfl
       simp only [e7, e16] at hK ⊢
       rw [if_pos (by rfl)]
       go_simp
       exact hK _ _ hG rfl (fun _ _ _ h => h)
     ·have hkn : k = N := by omega
      have hki : ¬ (k : Int) < (N : Int) := by omega
      have HshN : Hid (∀ r, r < i + 1 → (x.rs.r r).shaped (N : Int) = true) := hide (fun r hr => by
       by_cases e : r = i
       ·rw [e, ← Hrr.out]; exact rr.shaped_of H2.out H1.out (fun q hq => HL.out q (by omega))
       ·exact Hsh.out r (by omega))
      have Hfl : Hid ((x.rs.noneTo n.a.size i || rr.noneIn n.a.size k) = x.rs.noneTo n.a.size (i + 1)) := hide (by rw [RtrsM.noneTo_succ, ← Hrr.out, H1.out, hkn])
      rw [Hfl.out]
      clear hkn HL Hfl
      go_wp2
      go_roundw
      case rel =>
       first
       | exact ⟨i + 1, by omega, by go_num, rfl, HshN, HGk⟩
       | ((try rw [← Hga.out]); (repeat apply Exists.intro); refine ⟨?_, rfl⟩; exact ⟨i + 1, by omega, by go_num, rfl, HshN, HGk⟩)
      case measure => simp [intOf]; omega
  ·have hin : i = N := by omega
   have hii : ¬ (i : Int) < (N : Int) := by omega
   have Herr : Hid (x.err n.net = if x.rs.noneTo n.a.size N = true then 5 else x.bag.err n.net) := hide (by
    have h1 := EngM.err_bag (x := x) (n := n.net) Hc.out (by rw [Hgn.out, Hnn.out]) (fun r hr => by rw [Hnn.out]; exact Hsh.out r (by rw [hin, ← Hgn.out]; exact hr))
    rw [Hgn.out] at h1
    exact h1)
   rw [hin]
   cases hnn2 : x.rs.noneTo n.a.size N with
   | true =>
    have Hf : Hid (x.err n.net = 5) := hide (by rw [Herr.out, if_pos hnn2])
    have HB := hide HGr.out.below
    have hii2 : ¬ (N : Int) < (N : Int) := by omega
    clear hin hii hlt hnn2
    go_wp2
    go_ret
    exact ⟨by rw [Hf.out]; rfl, HB.out⟩
   | false =>
    have Hbag : Hid (x.err n.net = x.bag.err n.net) := hide (by rw [Herr.out, if_neg (by rw [hnn2]; decide)])
    have hii2 : ¬ (N : Int) < (N : Int) := by omega
    clear hin hii hlt hnn2 Herr Hsh
    by_cases hmany : 120 < x.bag.bn
    ·have hmi : (120 : Int) < (x.bag.bn : Int) := by omega
     have Hf : Hid (x.err n.net = 2) := hide (by rw [Hbag.out]; unfold BagM.err; rw [if_pos hmany])
     have HB := hide HGr.out.below
     clear hmany
     go_wp2
     go_ret
     exact ⟨by rw [Hf.out]; rfl, HB.out⟩
    have hmi : ¬ (120 : Int) < (x.bag.bn : Int) := by omega
    have hb120 : x.bag.bn ≤ 120 := by omega
    have Hb5 : Hid ((∃ q, q < x.bag.bn ∧ (!(decide (0 ≤ (x.bag.M q).F) && decide ((x.bag.M q).F < (N : Int))) || !(decide (0 ≤ (x.bag.M q).T) && decide ((x.bag.M q).T < (N : Int)))) = true) → x.err n.net = 5) := hide (fun ⟨q, hq, hh⟩ => by
     rw [Hbag.out]
     unfold BagM.err
     rw [if_neg hmany, if_pos]
     rw [List.any_eq_true]
     exact ⟨q, by simpa using hq, by rw [Hnn.out]; exact hh⟩)
    have Hb2 : Hid ((∀ q, q < x.bag.bn → (!(decide (0 ≤ (x.bag.M q).F) && decide ((x.bag.M q).F < (N : Int))) || !(decide (0 ≤ (x.bag.M q).T) && decide ((x.bag.M q).T < (N : Int)))) = false) → x.err n.net = if ((List.range x.bag.bn).any fun i => decide (60 < (x.bag.M i).b.length)) = true then 2 else 0) := hide (fun hh => by
     rw [Hbag.out]
     unfold BagM.err
     rw [if_neg hmany, if_neg]
     rw [Bool.not_eq_true, List.any_eq_false]
     intro q hq
     rw [Hnn.out, hh q (by simpa using hq)]
     decide)
    clear hmany Hbag
    go_wp2_with fail
    clear x0 x1 n0 n1 n2 n3 n4
    go_loopw [10] (fun q wr => ∃ k : Nat, k ≤ x.bag.bn ∧ q = .int .i64 k ∧ Hid (∀ q, q < k → (!(decide (0 ≤ (x.bag.M q).F) && decide ((x.bag.M q).F < (N : Int))) || !(decide (0 ≤ (x.bag.M q).T) && decide ((x.bag.M q).T < (N : Int)))) = false) ∧ Hid (ChG w n x wr)) (fun q _ => x.bag.bn - (intOf q).toNat)
    case atStart => exact ⟨0, Nat.zero_le _, rfl, hide (fun q hq => absurd hq (Nat.not_lt_zero _)), HGr⟩
    case round =>
     obtain ⟨k, hk, hq, Hok, HGk⟩ := hrel
     subst hq
     clear HGr
     have n0 := HGk.out.bn.cell 0
     have n1 := HGk.out.bn.cell 1
     have n2 := HGk.out.bn.cell 2
     have n3 := HGk.out.bn.cell 3
     have n4 := HGk.out.bn.cell 4
     rw [Hnc.out] at n0 n1 n2 n3 n4
     simp at n0 n1 n2 n3 n4
     have x0 := HGk.out.bx.cell 0
     have x1 := HGk.out.bx.cell 1
     rw [Hxc.out] at x0 x1
     simp at x0 x1
     by_cases hkl : k < x.bag.bn
     ·have hki : (k : Int) < (x.bag.bn : Int) := by omega
      have Hbw : Hid (∀ W, Below wr.heap.size wr W → x.bag.In w.heap.size W) := hide (fun W hb => (Hx.out.below (HGk.out.keep hb).below (Nat.le_refl _)).bag)
      have hba := Hx.out.bag.ba (by omega)
      rw [hba] at x1
      have Hba := hide hba
      obtain ⟨m, hm⟩ : ∃ m, m = x.bag.M k := ⟨_, rfl⟩
      have Hc0 : Hid (∀ W, Below wr.heap.size wr W → W.cell? ⟨x.bag.bb, x.bag.bo + k * 3, none⟩ = some (.int .i64 m.F)) := hide (fun W hb => by rw [hm]; exact (Hbw.out W hb).c0 k hkl)
      have Hc1 : Hid (∀ W, Below wr.heap.size wr W → W.cell? ⟨x.bag.bb, x.bag.bo + k * 3 + 1, none⟩ = some (.int .i64 m.T)) := hide (fun W hb => by rw [hm]; exact (Hbw.out W hb).c1 k hkl)
      have Hm := hide hm
      have Hkl := hide hkl
      clear hba hm
      by_cases hF : 0 ≤ m.F ∧ m.F < (N : Int)
      rotate_left
      ·have HFv : Hid ((decide (0 ≤ m.F) && decide (m.F ≤ (N : Int) - 1)) = false) := hide (by simp; omega)
       have Hf := hide (Hb5.out ⟨k, hkl, by rw [← Hm.out, show (decide (0 ≤ m.F) && decide (m.F < (N : Int))) = false by simp; omega]; rfl⟩)
       go_wp2_with fail
       clear n0 n1 n2 n3 n4 x0 x1
       refine wp_region_only (fun W => Below wr.heap.size wr W) (valsE [.agg #[.int .i64 n.a.size, .slice n.a.B.ga n.a.B.t.len n.a.B.cap, .slice n.a.E.ga n.a.E.t.len n.a.E.cap, .int .i64 (N : Int), .slice n.la n.ln n.lc], .pointer (some ⟨w.heap.size + 1, 1, none⟩), .slice (some ⟨x.bag.bb, x.bag.bo, none⟩) x.bag.bn x.bag.bc, .int .i64 (k : Int), .pointer (some ⟨x.bag.bb, x.bag.bo + k * 3, none⟩), .pointer (some ⟨x.bag.bb, x.bag.bo + k * 3, none⟩), .int .i64 m.F, .bool false, .bool true, .bool true, undef, undef, undef, undef, undef, undef, undef, undef, undef, .bool true]) (by kernel_rfl) (by kernel_rfl) (by kernel_rfl) (⟨rfl, rfl, rfl, Nat.le_refl _, fun _ _ => rfl⟩) ⟨?_, ?_, ?_, ?_, ?_, ?_, ?_, ?_, ?_, ?_, ?_, ?_, ?_, ?_, ?_, ?_, ?_, ?_, ?_, ?_, trivial⟩ ?_
       rotate_right
       ·intro t W hG hE
        have e19 := valsE_get (hE 19 (by decide)) rfl
        have HG' := hide hG
        clear hE hG
        simp only [fill, Act.put, List.setIfInBounds_toArray, List.set_cons_zero, List.set_cons_succ, e19]
        clear e19
        have HB := hide (HGk.out.keep HG'.out).below
        clear HG'
        go_wp2
        go_ret
        exact ⟨by rw [Hf.out]; rfl, HB.out⟩
       all_goals intro t W hG hp K hK
       all_goals simp only [fill, Act.put, List.setIfInBounds_toArray, List.set_cons_zero, List.set_cons_succ] at hK ⊢
       ·have cn := (HGk.out.keep hG).bn
        have c0 := cn.cell 0
        have c1 := cn.cell 1
        have c2 := cn.cell 2
        have c3 := cn.cell 3
        have c4 := cn.cell 4
        rw [Hnc.out] at c0 c1 c2 c3 c4
        simp at c0 c1 c2 c3 c4
        clear cn
        rw [if_pos (by rfl)]
        go_simp
        exact hK _ _ hG rfl (fun _ _ _ h => h)
       ·rw [if_pos (by rfl)]
        go_simp
        exact hK _ _ hG rfl (fun _ _ _ h => h)
       ·have e1 := valsE_get (hp 1 (by decide)) rfl
        have cx := (HGk.out.keep hG).bx.cell 1
        rw [Hxc.out] at cx
        simp at cx
        rw [Hba.out] at cx
        simp only [e1] at hK ⊢
        rw [if_pos (by rfl)]
        go_simp
        exact hK _ _ hG rfl (fun _ _ _ h => h)
       ·rw [if_pos (by rfl)]
        go_simp
        exact hK _ _ hG rfl (fun _ _ _ h => h)
       ·have e2 := valsE_get (hp 2 (by decide)) rfl
        have e3 := valsE_get (hp 3 (by decide)) rfl
        simp only [e2, e3] at hK ⊢
        rw [if_pos (by rfl)]
        go_simp
        exact hK _ _ hG rfl (fun _ _ _ h => h)
       ·have e4 := valsE_get (hp 4 (by decide)) rfl
        simp only [e4] at hK ⊢
        rw [if_pos (by rfl)]
        go_simp
        exact hK _ _ hG rfl (fun _ _ _ h => h)
       ·have e5 := valsE_get (hp 5 (by decide)) rfl
        have cx := Hc0.out W hG
        simp only [e5] at hK ⊢
        rw [if_pos (by rfl)]
        go_simp
        exact hK _ _ hG rfl (fun _ _ _ h => h)
       ·have e0 := valsE_get (hp 0 (by decide)) rfl
        have e6 := valsE_get (hp 6 (by decide)) rfl
        simp only [e0, e6] at hK ⊢
        rw [if_pos (by rfl)]
        go_simp
        go_at_call 25
        refine (HIs.out _ _).mono ?_
        rintro e W' ⟨rfl, hW'⟩
        rw [HFv.out]
        have hb' : Below W.heap.size W W' := by rw [hW']; exact (Below.refl _ W).alloc (Nat.le_refl _) _
        clear hW'
        go_simp
        exact hK _ W' (hG.trans (hb'.mono hG.size)) rfl (fun _ _ _ h => h)
       ·have e7 := valsE_get (hp 7 (by decide)) rfl
        simp only [e7] at hK ⊢
        rw [if_pos (by rfl)]
        go_simp
        exact hK _ _ hG rfl (fun _ _ _ h => h)
       ·have e8 := valsE_get (hp 8 (by decide)) rfl
        simp only [e8] at hK ⊢
        rw [if_pos (by rfl)]
        go_simp
        exact hK _ _ hG rfl (fun _ _ _ h => h)
       ·have e9 := valsE_get (hp 9 (by decide)) rfl
        simp only [e9] at hK ⊢
        rw [if_neg (by intro hh; exact absurd (show false = true from hh) (by decide))]
        exact hK undef _ hG rfl (fun _ _ _ h => h)
       ·have e9 := valsE_get (hp 9 (by decide)) rfl
        simp only [e9] at hK ⊢
        rw [if_neg (by intro hh; exact absurd (show false = true from hh) (by decide))]
        exact hK undef _ hG rfl (fun _ _ _ h => h)
       ·have e9 := valsE_get (hp 9 (by decide)) rfl
        simp only [e9] at hK ⊢
        rw [if_neg (by intro hh; exact absurd (show false = true from hh) (by decide))]
        exact hK undef _ hG rfl (fun _ _ _ h => h)
       ·have e9 := valsE_get (hp 9 (by decide)) rfl
        simp only [e9] at hK ⊢
        rw [if_neg (by intro hh; exact absurd (show false = true from hh) (by decide))]
        exact hK undef _ hG rfl (fun _ _ _ h => h)
       ·have e9 := valsE_get (hp 9 (by decide)) rfl
        simp only [e9] at hK ⊢
        rw [if_neg (by intro hh; exact absurd (show false = true from hh) (by decide))]
        exact hK undef _ hG rfl (fun _ _ _ h => h)
       ·have e9 := valsE_get (hp 9 (by decide)) rfl
        simp only [e9] at hK ⊢
        rw [if_neg (by intro hh; exact absurd (show false = true from hh) (by decide))]
        exact hK undef _ hG rfl (fun _ _ _ h => h)
       ·have e9 := valsE_get (hp 9 (by decide)) rfl
        simp only [e9] at hK ⊢
        rw [if_neg (by intro hh; exact absurd (show false = true from hh) (by decide))]
        exact hK undef _ hG rfl (fun _ _ _ h => h)
       ·have e9 := valsE_get (hp 9 (by decide)) rfl
        simp only [e9] at hK ⊢
        rw [if_neg (by intro hh; exact absurd (show false = true from hh) (by decide))]
        exact hK undef _ hG rfl (fun _ _ _ h => h)
       ·have e9 := valsE_get (hp 9 (by decide)) rfl
        simp only [e9] at hK ⊢
        rw [if_neg (by intro hh; exact absurd (show false = true from hh) (by decide))]
        exact hK undef _ hG rfl (fun _ _ _ h => h)
       ·have e9 := valsE_get (hp 9 (by decide)) rfl
        have e18 := valsE_get (hp 18 (by decide)) rfl
        simp only [e9, e18] at hK ⊢
        rw [if_pos (by rfl)]
        go_simp
        exact hK _ _ hG rfl (fun _ _ _ h => h)
      have HFv : Hid ((decide (0 ≤ m.F) && decide (m.F ≤ (N : Int) - 1)) = true) := hide (by simp; omega)
      by_cases hT : 0 ≤ m.T ∧ m.T < (N : Int)
      rotate_left
      ·have HTv : Hid ((decide (0 ≤ m.T) && decide (m.T ≤ (N : Int) - 1)) = false) := hide (by simp; omega)
       have Hf := hide (Hb5.out ⟨k, hkl, by rw [← Hm.out, show (decide (0 ≤ m.T) && decide (m.T < (N : Int))) = false by simp; omega]; simp⟩)
       go_wp2_with fail
       clear n0 n1 n2 n3 n4 x0 x1
       refine wp_region_only (fun W => Below wr.heap.size wr W) (valsE [.agg #[.int .i64 n.a.size, .slice n.a.B.ga n.a.B.t.len n.a.B.cap, .slice n.a.E.ga n.a.E.t.len n.a.E.cap, .int .i64 (N : Int), .slice n.la n.ln n.lc], .pointer (some ⟨w.heap.size + 1, 1, none⟩), .slice (some ⟨x.bag.bb, x.bag.bo, none⟩) x.bag.bn x.bag.bc, .int .i64 (k : Int), .pointer (some ⟨x.bag.bb, x.bag.bo + k * 3, none⟩), .pointer (some ⟨x.bag.bb, x.bag.bo + k * 3, none⟩), .int .i64 m.F, .bool true, .bool false, .bool false, .agg #[.int .i64 n.a.size, .slice n.a.B.ga n.a.B.t.len n.a.B.cap, .slice n.a.E.ga n.a.E.t.len n.a.E.cap, .int .i64 (N : Int), .slice n.la n.ln n.lc], .pointer (some ⟨w.heap.size + 1, 1, none⟩), .slice (some ⟨x.bag.bb, x.bag.bo, none⟩) x.bag.bn x.bag.bc, .int .i64 (k : Int), .pointer (some ⟨x.bag.bb, x.bag.bo + k * 3, none⟩), .pointer (some ⟨x.bag.bb, x.bag.bo + k * 3 + 1, none⟩), .int .i64 m.T, .bool false, .bool true, .bool true]) (by kernel_rfl) (by kernel_rfl) (by kernel_rfl) (⟨rfl, rfl, rfl, Nat.le_refl _, fun _ _ => rfl⟩) ⟨?_, ?_, ?_, ?_, ?_, ?_, ?_, ?_, ?_, ?_, ?_, ?_, ?_, ?_, ?_, ?_, ?_, ?_, ?_, ?_, trivial⟩ ?_
       rotate_right
       ·intro t W hG hE
        have e19 := valsE_get (hE 19 (by decide)) rfl
        have HG' := hide hG
        clear hE hG
        simp only [fill, Act.put, List.setIfInBounds_toArray, List.set_cons_zero, List.set_cons_succ, e19]
        clear e19
        have HB := hide (HGk.out.keep HG'.out).below
        clear HG'
        go_wp2
        go_ret
        exact ⟨by rw [Hf.out]; rfl, HB.out⟩
       all_goals intro t W hG hp K hK
       all_goals simp only [fill, Act.put, List.setIfInBounds_toArray, List.set_cons_zero, List.set_cons_succ] at hK ⊢
       ·have cn := (HGk.out.keep hG).bn
        have c0 := cn.cell 0
        have c1 := cn.cell 1
        have c2 := cn.cell 2
        have c3 := cn.cell 3
        have c4 := cn.cell 4
        rw [Hnc.out] at c0 c1 c2 c3 c4
        simp at c0 c1 c2 c3 c4
        clear cn
        rw [if_pos (by rfl)]
        go_simp
        exact hK _ _ hG rfl (fun _ _ _ h => h)
       ·rw [if_pos (by rfl)]
        go_simp
        exact hK _ _ hG rfl (fun _ _ _ h => h)
       ·have e1 := valsE_get (hp 1 (by decide)) rfl
        have cx := (HGk.out.keep hG).bx.cell 1
        rw [Hxc.out] at cx
        simp at cx
        rw [Hba.out] at cx
        simp only [e1] at hK ⊢
        rw [if_pos (by rfl)]
        go_simp
        exact hK _ _ hG rfl (fun _ _ _ h => h)
       ·rw [if_pos (by rfl)]
        go_simp
        exact hK _ _ hG rfl (fun _ _ _ h => h)
       ·have e2 := valsE_get (hp 2 (by decide)) rfl
        have e3 := valsE_get (hp 3 (by decide)) rfl
        simp only [e2, e3] at hK ⊢
        rw [if_pos (by rfl)]
        go_simp
        exact hK _ _ hG rfl (fun _ _ _ h => h)
       ·have e4 := valsE_get (hp 4 (by decide)) rfl
        simp only [e4] at hK ⊢
        rw [if_pos (by rfl)]
        go_simp
        exact hK _ _ hG rfl (fun _ _ _ h => h)
       ·have e5 := valsE_get (hp 5 (by decide)) rfl
        have cx := Hc0.out W hG
        simp only [e5] at hK ⊢
        rw [if_pos (by rfl)]
        go_simp
        exact hK _ _ hG rfl (fun _ _ _ h => h)
       ·have e0 := valsE_get (hp 0 (by decide)) rfl
        have e6 := valsE_get (hp 6 (by decide)) rfl
        simp only [e0, e6] at hK ⊢
        rw [if_pos (by rfl)]
        go_simp
        go_at_call 25
        refine (HIs.out _ _).mono ?_
        rintro e W' ⟨rfl, hW'⟩
        rw [HFv.out]
        have hb' : Below W.heap.size W W' := by rw [hW']; exact (Below.refl _ W).alloc (Nat.le_refl _) _
        clear hW'
        go_simp
        exact hK _ W' (hG.trans (hb'.mono hG.size)) rfl (fun _ _ _ h => h)
       ·have e7 := valsE_get (hp 7 (by decide)) rfl
        simp only [e7] at hK ⊢
        rw [if_pos (by rfl)]
        go_simp
        exact hK _ _ hG rfl (fun _ _ _ h => h)
       ·have e8 := valsE_get (hp 8 (by decide)) rfl
        simp only [e8] at hK ⊢
        rw [if_pos (by rfl)]
        go_simp
        exact hK _ _ hG rfl (fun _ _ _ h => h)
       ·have e9 := valsE_get (hp 9 (by decide)) rfl
        have cn := (HGk.out.keep hG).bn
        have c0 := cn.cell 0
        have c1 := cn.cell 1
        have c2 := cn.cell 2
        have c3 := cn.cell 3
        have c4 := cn.cell 4
        rw [Hnc.out] at c0 c1 c2 c3 c4
        simp at c0 c1 c2 c3 c4
        clear cn
        simp only [e9] at hK ⊢
        rw [if_pos (by rfl)]
        go_simp
        exact hK _ _ hG rfl (fun _ _ _ h => h)
       ·have e9 := valsE_get (hp 9 (by decide)) rfl
        simp only [e9] at hK ⊢
        rw [if_pos (by rfl)]
        go_simp
        exact hK _ _ hG rfl (fun _ _ _ h => h)
       ·have e9 := valsE_get (hp 9 (by decide)) rfl
        have e11 := valsE_get (hp 11 (by decide)) rfl
        have cx := (HGk.out.keep hG).bx.cell 1
        rw [Hxc.out] at cx
        simp at cx
        rw [Hba.out] at cx
        simp only [e9, e11] at hK ⊢
        rw [if_pos (by rfl)]
        go_simp
        exact hK _ _ hG rfl (fun _ _ _ h => h)
       ·have e9 := valsE_get (hp 9 (by decide)) rfl
        simp only [e9] at hK ⊢
        rw [if_pos (by rfl)]
        go_simp
        exact hK _ _ hG rfl (fun _ _ _ h => h)
       ·have e9 := valsE_get (hp 9 (by decide)) rfl
        have e12 := valsE_get (hp 12 (by decide)) rfl
        have e13 := valsE_get (hp 13 (by decide)) rfl
        simp only [e9, e12, e13] at hK ⊢
        rw [if_pos (by rfl)]
        go_simp
        exact hK _ _ hG rfl (fun _ _ _ h => h)
       ·have e9 := valsE_get (hp 9 (by decide)) rfl
        have e14 := valsE_get (hp 14 (by decide)) rfl
        simp only [e9, e14] at hK ⊢
        rw [if_pos (by rfl)]
        go_simp
        exact hK _ _ hG rfl (fun _ _ _ h => h)
       ·have e9 := valsE_get (hp 9 (by decide)) rfl
        have e15 := valsE_get (hp 15 (by decide)) rfl
        have cx := Hc1.out W hG
        simp only [e9, e15] at hK ⊢
        rw [if_pos (by rfl)]
        go_simp
        exact hK _ _ hG rfl (fun _ _ _ h => h)
       ·have e9 := valsE_get (hp 9 (by decide)) rfl
        have e10 := valsE_get (hp 10 (by decide)) rfl
        have e16 := valsE_get (hp 16 (by decide)) rfl
        simp only [e9, e10, e16] at hK ⊢
        rw [if_pos (by rfl)]
        go_simp
        go_at_call 25
        refine (HIs.out _ _).mono ?_
        rintro e W' ⟨rfl, hW'⟩
        rw [HTv.out]
        have hb' : Below W.heap.size W W' := by rw [hW']; exact (Below.refl _ W).alloc (Nat.le_refl _) _
        clear hW'
        go_simp
        exact hK _ W' (hG.trans (hb'.mono hG.size)) rfl (fun _ _ _ h => h)
       ·have e9 := valsE_get (hp 9 (by decide)) rfl
        have e17 := valsE_get (hp 17 (by decide)) rfl
        simp only [e9, e17] at hK ⊢
        rw [if_pos (by rfl)]
        go_simp
        exact hK _ _ hG rfl (fun _ _ _ h => h)
       ·have e9 := valsE_get (hp 9 (by decide)) rfl
        have e18 := valsE_get (hp 18 (by decide)) rfl
        simp only [e9, e18] at hK ⊢
        rw [if_pos (by rfl)]
        go_simp
        exact hK _ _ hG rfl (fun _ _ _ h => h)
      have HTv : Hid ((decide (0 ≤ m.T) && decide (m.T ≤ (N : Int) - 1)) = true) := hide (by simp; omega)
      have Hnx : Hid (∀ q, q < k + 1 → (!(decide (0 ≤ (x.bag.M q).F) && decide ((x.bag.M q).F < (N : Int))) || !(decide (0 ≤ (x.bag.M q).T) && decide ((x.bag.M q).T < (N : Int)))) = false) := hide (fun q hq => by
       by_cases e : q = k
       ·rw [e, ← Hm.out]; simp; omega
       ·exact Hok.out q (by omega))
      go_wp2_with fail
      clear n0 n1 n2 n3 n4 x0 x1
      refine wp_region_only (fun W => Below wr.heap.size wr W) (valsE [.agg #[.int .i64 n.a.size, .slice n.a.B.ga n.a.B.t.len n.a.B.cap, .slice n.a.E.ga n.a.E.t.len n.a.E.cap, .int .i64 (N : Int), .slice n.la n.ln n.lc], .pointer (some ⟨w.heap.size + 1, 1, none⟩), .slice (some ⟨x.bag.bb, x.bag.bo, none⟩) x.bag.bn x.bag.bc, .int .i64 (k : Int), .pointer (some ⟨x.bag.bb, x.bag.bo + k * 3, none⟩), .pointer (some ⟨x.bag.bb, x.bag.bo + k * 3, none⟩), .int .i64 m.F, .bool true, .bool false, .bool false, .agg #[.int .i64 n.a.size, .slice n.a.B.ga n.a.B.t.len n.a.B.cap, .slice n.a.E.ga n.a.E.t.len n.a.E.cap, .int .i64 (N : Int), .slice n.la n.ln n.lc], .pointer (some ⟨w.heap.size + 1, 1, none⟩), .slice (some ⟨x.bag.bb, x.bag.bo, none⟩) x.bag.bn x.bag.bc, .int .i64 (k : Int), .pointer (some ⟨x.bag.bb, x.bag.bo + k * 3, none⟩), .pointer (some ⟨x.bag.bb, x.bag.bo + k * 3 + 1, none⟩), .int .i64 m.T, .bool true, .bool false, .bool false]) (by kernel_rfl) (by kernel_rfl) (by kernel_rfl) (⟨rfl, rfl, rfl, Nat.le_refl _, fun _ _ => rfl⟩) ⟨?_, ?_, ?_, ?_, ?_, ?_, ?_, ?_, ?_, ?_, ?_, ?_, ?_, ?_, ?_, ?_, ?_, ?_, ?_, ?_, trivial⟩ ?_
      rotate_right
      ·intro t W hG hE
       have e19 := valsE_get (hE 19 (by decide)) rfl
       have HG' := hide hG
       clear hE hG
       simp only [fill, Act.put, List.setIfInBounds_toArray, List.set_cons_zero, List.set_cons_succ, e19]
       clear e19
       have HG9 := hide (HGk.out.keep HG'.out)
       clear HG'
       go_wp2
       go_roundw
       case rel =>
        first
        | exact ⟨k + 1, by omega, by go_num, Hnx, HG9⟩
        | ((try rw [← Hba.out]); (repeat apply Exists.intro); refine ⟨?_, rfl⟩; exact ⟨k + 1, by omega, by go_num, Hnx, HG9⟩)
       case measure => simp [intOf]; omega
      all_goals intro t W hG hp K hK
      all_goals simp only [fill, Act.put, List.setIfInBounds_toArray, List.set_cons_zero, List.set_cons_succ] at hK ⊢
      ·have cn := (HGk.out.keep hG).bn
       have c0 := cn.cell 0
       have c1 := cn.cell 1
       have c2 := cn.cell 2
       have c3 := cn.cell 3
       have c4 := cn.cell 4
       rw [Hnc.out] at c0 c1 c2 c3 c4
       simp at c0 c1 c2 c3 c4
       clear cn
       rw [if_pos (by rfl)]
       go_simp
       exact hK _ _ hG rfl (fun _ _ _ h => h)
      ·rw [if_pos (by rfl)]
       go_simp
       exact hK _ _ hG rfl (fun _ _ _ h => h)
      ·have e1 := valsE_get (hp 1 (by decide)) rfl
       have cx := (HGk.out.keep hG).bx.cell 1
       rw [Hxc.out] at cx
       simp at cx
       rw [Hba.out] at cx
       simp only [e1] at hK ⊢
       rw [if_pos (by rfl)]
       go_simp
       exact hK _ _ hG rfl (fun _ _ _ h => h)
      ·rw [if_pos (by rfl)]
       go_simp
       exact hK _ _ hG rfl (fun _ _ _ h => h)
      ·have e2 := valsE_get (hp 2 (by decide)) rfl
       have e3 := valsE_get (hp 3 (by decide)) rfl
       simp only [e2, e3] at hK ⊢
       rw [if_pos (by rfl)]
       go_simp
       exact hK _ _ hG rfl (fun _ _ _ h => h)
      ·have e4 := valsE_get (hp 4 (by decide)) rfl
       simp only [e4] at hK ⊢
       rw [if_pos (by rfl)]
       go_simp
       exact hK _ _ hG rfl (fun _ _ _ h => h)
      ·have e5 := valsE_get (hp 5 (by decide)) rfl
       have cx := Hc0.out W hG
       simp only [e5] at hK ⊢
       rw [if_pos (by rfl)]
       go_simp
       exact hK _ _ hG rfl (fun _ _ _ h => h)
      ·have e0 := valsE_get (hp 0 (by decide)) rfl
       have e6 := valsE_get (hp 6 (by decide)) rfl
       simp only [e0, e6] at hK ⊢
       rw [if_pos (by rfl)]
       go_simp
       go_at_call 25
       refine (HIs.out _ _).mono ?_
       rintro e W' ⟨rfl, hW'⟩
       rw [HFv.out]
       have hb' : Below W.heap.size W W' := by rw [hW']; exact (Below.refl _ W).alloc (Nat.le_refl _) _
       clear hW'
       go_simp
       exact hK _ W' (hG.trans (hb'.mono hG.size)) rfl (fun _ _ _ h => h)
      ·have e7 := valsE_get (hp 7 (by decide)) rfl
       simp only [e7] at hK ⊢
       rw [if_pos (by rfl)]
       go_simp
       exact hK _ _ hG rfl (fun _ _ _ h => h)
      ·have e8 := valsE_get (hp 8 (by decide)) rfl
       simp only [e8] at hK ⊢
       rw [if_pos (by rfl)]
       go_simp
       exact hK _ _ hG rfl (fun _ _ _ h => h)
      ·have e9 := valsE_get (hp 9 (by decide)) rfl
       have cn := (HGk.out.keep hG).bn
       have c0 := cn.cell 0
       have c1 := cn.cell 1
       have c2 := cn.cell 2
       have c3 := cn.cell 3
       have c4 := cn.cell 4
       rw [Hnc.out] at c0 c1 c2 c3 c4
       simp at c0 c1 c2 c3 c4
       clear cn
       simp only [e9] at hK ⊢
       rw [if_pos (by rfl)]
       go_simp
       exact hK _ _ hG rfl (fun _ _ _ h => h)
      ·have e9 := valsE_get (hp 9 (by decide)) rfl
       simp only [e9] at hK ⊢
       rw [if_pos (by rfl)]
       go_simp
       exact hK _ _ hG rfl (fun _ _ _ h => h)
      ·have e9 := valsE_get (hp 9 (by decide)) rfl
       have e11 := valsE_get (hp 11 (by decide)) rfl
       have cx := (HGk.out.keep hG).bx.cell 1
       rw [Hxc.out] at cx
       simp at cx
       rw [Hba.out] at cx
       simp only [e9, e11] at hK ⊢
       rw [if_pos (by rfl)]
       go_simp
       exact hK _ _ hG rfl (fun _ _ _ h => h)
      ·have e9 := valsE_get (hp 9 (by decide)) rfl
       simp only [e9] at hK ⊢
       rw [if_pos (by rfl)]
       go_simp
       exact hK _ _ hG rfl (fun _ _ _ h => h)
      ·have e9 := valsE_get (hp 9 (by decide)) rfl
       have e12 := valsE_get (hp 12 (by decide)) rfl
       have e13 := valsE_get (hp 13 (by decide)) rfl
       simp only [e9, e12, e13] at hK ⊢
       rw [if_pos (by rfl)]
       go_simp
       exact hK _ _ hG rfl (fun _ _ _ h => h)
      ·have e9 := valsE_get (hp 9 (by decide)) rfl
       have e14 := valsE_get (hp 14 (by decide)) rfl
       simp only [e9, e14] at hK ⊢
       rw [if_pos (by rfl)]
       go_simp
       exact hK _ _ hG rfl (fun _ _ _ h => h)
      ·have e9 := valsE_get (hp 9 (by decide)) rfl
       have e15 := valsE_get (hp 15 (by decide)) rfl
       have cx := Hc1.out W hG
       simp only [e9, e15] at hK ⊢
       rw [if_pos (by rfl)]
       go_simp
       exact hK _ _ hG rfl (fun _ _ _ h => h)
      ·have e9 := valsE_get (hp 9 (by decide)) rfl
       have e10 := valsE_get (hp 10 (by decide)) rfl
       have e16 := valsE_get (hp 16 (by decide)) rfl
       simp only [e9, e10, e16] at hK ⊢
       rw [if_pos (by rfl)]
       go_simp
       go_at_call 25
       refine (HIs.out _ _).mono ?_
       rintro e W' ⟨rfl, hW'⟩
       rw [HTv.out]
       have hb' : Below W.heap.size W W' := by rw [hW']; exact (Below.refl _ W).alloc (Nat.le_refl _) _
       clear hW'
       go_simp
       exact hK _ W' (hG.trans (hb'.mono hG.size)) rfl (fun _ _ _ h => h)
      ·have e9 := valsE_get (hp 9 (by decide)) rfl
       have e17 := valsE_get (hp 17 (by decide)) rfl
       simp only [e9, e17] at hK ⊢
       rw [if_pos (by rfl)]
       go_simp
       exact hK _ _ hG rfl (fun _ _ _ h => h)
      ·have e9 := valsE_get (hp 9 (by decide)) rfl
       have e18 := valsE_get (hp 18 (by decide)) rfl
       simp only [e9, e18] at hK ⊢
       rw [if_pos (by rfl)]
       go_simp
       exact hK _ _ hG rfl (fun _ _ _ h => h)
     ·have hkn : k = x.bag.bn := by omega
      have hki : ¬ (k : Int) < (x.bag.bn : Int) := by omega
      have Her := hide (Hb2.out (fun q hq => Hok.out q (by omega)))
      clear Hok Hb5 Hb2
      go_wp2_with fail
      clear n0 n1 n2 n3 n4 x0 x1
      go_loopw [11] (fun q wr => ∃ k : Nat, k ≤ x.bag.bn ∧ q = .int .i64 k ∧ Hid (∀ q, q < k → (x.bag.M q).b.length ≤ 60) ∧ Hid (ChG w n x wr)) (fun q _ => x.bag.bn - (intOf q).toNat)
      case atStart => exact ⟨0, Nat.zero_le _, rfl, hide (fun q hq => absurd hq (Nat.not_lt_zero _)), HGk⟩
      case round =>
       clear HGk hkn hki
       obtain ⟨k2, hk2, hq, Hok, HGk⟩ := hrel
       subst hq
       have n0 := HGk.out.bn.cell 0
       have n1 := HGk.out.bn.cell 1
       have n2 := HGk.out.bn.cell 2
       have n3 := HGk.out.bn.cell 3
       have n4 := HGk.out.bn.cell 4
       rw [Hnc.out] at n0 n1 n2 n3 n4
       simp at n0 n1 n2 n3 n4
       have x0 := HGk.out.bx.cell 0
       have x1 := HGk.out.bx.cell 1
       rw [Hxc.out] at x0 x1
       simp at x0 x1
       by_cases hkl2 : k2 < x.bag.bn
       ·have hki : (k2 : Int) < (x.bag.bn : Int) := by omega
        have hba := Hx.out.bag.ba (by omega)
        rw [hba] at x1
        have Hba := hide hba
        have c2 := (Hx.out.below HGk.out.below (Nat.le_refl _)).bag.c2 k2 hkl2
        have hll := (Hx.out).bag.lens k2 hkl2
        unfold maxLen at hll
        obtain ⟨s, hs⟩ : ∃ s, s = ByteArray.mk (x.bag.M k2).b.toArray := ⟨_, rfl⟩
        have hsz : s.size = (x.bag.M k2).b.length := by rw [hs]; simp [ByteArray.size]
        rw [← hs] at c2
        obtain ⟨ln, hln⟩ : ∃ ln, ln = (x.bag.M k2).b.length := ⟨_, rfl⟩
        rw [← hln] at hsz hll
        have Hln := hide hln
        clear hba hs hln
        by_cases h60 : 60 < ln
        ·have h6i : (60 : Int) < (ln : Int) := by omega
         have Hf : Hid (x.err n.net = 2) := hide (by
          rw [Her.out, if_pos]
          rw [List.any_eq_true]
          exact ⟨k2, by simpa using hkl2, by rw [← Hln.out]; simpa using h60⟩)
         have HB := hide HGk.out.below
         clear h60
         go_wp2
         go_ret
         exact ⟨by rw [Hf.out]; rfl, HB.out⟩
        ·have h6i : ¬ (60 : Int) < (ln : Int) := by omega
         have Hnx : Hid (∀ q, q < k2 + 1 → (x.bag.M q).b.length ≤ 60) := hide (fun q hq => by
          by_cases e : q = k2
          ·rw [e, ← Hln.out]; omega
          ·exact Hok.out q (by omega))
         clear h60 Hok
         go_wp2
         go_roundw
         case rel =>
          first
          | exact ⟨k2 + 1, by omega, by go_num, Hnx, HGk⟩
          | ((try rw [← Hba.out]); (repeat apply Exists.intro); refine ⟨?_, rfl⟩; exact ⟨k2 + 1, by omega, by go_num, Hnx, HGk⟩)
         case measure => simp [intOf]; omega
       ·have hki : ¬ (k2 : Int) < (x.bag.bn : Int) := by omega
        have Hf : Hid (x.err n.net = 0) := hide (by
         rw [Her.out, if_neg]
         rw [Bool.not_eq_true, List.any_eq_false]
         intro q hq
         have hqb : q < x.bag.bn := by simpa using hq
         have := Hok.out q (by omega)
         simpa using this)
        have HB := hide HGk.out.below
        clear Hok
        go_wp2
        go_ret
        exact ⟨by rw [Hf.out]; rfl, HB.out⟩

theorem refChk_any (n : NetM) (x : EngM) (w : World) (h : n.In w.heap.size w) (hx : x.In w.heap.size w) :
  Calls Tryz.prog 8 #[n.val, x.val] w fun e w' => e = .returned (.int .i64 (x.err n.net)) ∧ Below w.heap.size w w' := by
 by_cases hc : n.net.check = 0
 ·exact refChk_ok n x n.nodes.toNat w h hx hc (by have := (Net.good_of_check hc).lo; have : n.net.nodes = n.nodes := rfl; omega)
 ·exact refChk_no n x w h hc

end Go.Proofs.YtjhkadffaephmabGreat
