/-
  Our own texts, bundled: a claim holds few files.
-/
import Derived.Test.YtjhkadffaephmabGreatCutEnginePlaysCD
import Derived.Test.YtjhkadffaephmabGreatCutEnginePlaysCA
import Derived.Lib.AppendZeros
import Derived.Test.YtjhkadffaephmabGreatCutEnginePlaysCF
import Derived.Test.YtjhkadffaephmabGreatCutEnginePlaysCG
import Derived.Test.YtjhkadffaephmabGreatCutEnginePlaysCH
import Derived.Test.YtjhkadffaephmabGreatCutEnginePlaysCI
import Derived.Test.YtjhkadffaephmabGreatCutEnginePlaysBH
import Derived.Test.YtjhkadffaephmabGreatCutEnginePlaysAC
/-
 signpostref.StepOf: a router starts anew.
-/
namespace Go.Proofs.YtjhkadffaephmabGreat
set_option maxRecDepth 100000
open Go.RowKit

/-- While a router is made anew. -/
def rsE (vs : List Value) (N : Nat) (f : Nat → Int) (w1 : World) (q : Nat) (v : Value) (W : World) : Prop :=
 match q with
 | 4 => ∃ g, v = .slice (some ⟨g, 0, none⟩) 0 0
 | 7 => ∃ b c cs, v = .slice (some ⟨b, 0, none⟩) N c ∧ w1.heap.size ≤ b ∧ Ints (some ⟨b, 0, none⟩) N b 0 f W ∧ Blk W b cs 3
 | 10 => ∃ T, v = .slice (some ⟨T, 0, none⟩) N N ∧ w1.heap.size ≤ T ∧ Blk W T (madeCells #[.slice none 0 0] N) 32
 | 11 => ∃ b c cs T, v = .agg #[.slice (some ⟨b, 0, none⟩) N c, .slice (some ⟨T, 0, none⟩) N N] ∧ w1.heap.size ≤ b ∧ Ints (some ⟨b, 0, none⟩) N b 0 f W ∧ Blk W b cs 3 ∧ w1.heap.size ≤ T ∧ Blk W T (madeCells #[.slice none 0 0] N) 32
 | q => vs[q]? = some v
theorem rsE_keep {vs : List Value} {N : Nat} {f : Nat → Int} {w1 : World} {q : Nat} {v : Value} {W W' : World} (hb : Below W.heap.size W W') (h : rsE vs N f w1 q v W) : rsE vs N f w1 q v W' := by
 unfold rsE at h ⊢
 split at h
 ·exact h
 ·obtain ⟨b, c, cs, h1, h2, h3, h4⟩ := h; exact ⟨b, c, cs, h1, h2, h3.below hb (fun _ => h4.lt), h4.below hb h4.lt⟩
 ·obtain ⟨T, h1, h2, h3⟩ := h; exact ⟨T, h1, h2, h3.below hb h3.lt⟩
 ·obtain ⟨b, c, cs, T, h1, h2, h3, h4, h5, h6⟩ := h; exact ⟨b, c, cs, T, h1, h2, h3.below hb (fun _ => h4.lt), h4.below hb h4.lt, h5, h6.below hb h6.lt⟩
 ·exact h
theorem rsE_put {vs : List Value} {N : Nat} {f : Nat → Int} {w1 : World} {q : Nat} {v : Value} {W : World} (h4 : q ≠ 4) (h7 : q ≠ 7) (h10 : q ≠ 10) (h11 : q ≠ 11) (h : vs[q]? = some v) : rsE vs N f w1 q v W := by
 unfold rsE
 split <;> first | contradiction | exact h
theorem rsE_get {vs : List Value} {N : Nat} {f : Nat → Int} {w1 : World} {q : Nat} {v u : Value} {W : World} (h : rsE vs N f w1 q v W) (h4 : q ≠ 4) (h7 : q ≠ 7) (h10 : q ≠ 10) (h11 : q ≠ 11) (hu : vs[q]? = some u) : v = u := by
 unfold rsE at h
 split at h <;> first | contradiction | (rw [hu] at h; exact (Option.some.inj h).symm)
theorem rsE_4 {vs : List Value} {N : Nat} {f : Nat → Int} {w1 : World} {v : Value} {W : World} : rsE vs N f w1 4 v W ↔ ∃ g, v = .slice (some ⟨g, 0, none⟩) 0 0 := Iff.rfl
theorem rsE_7 {vs : List Value} {N : Nat} {f : Nat → Int} {w1 : World} {v : Value} {W : World} : rsE vs N f w1 7 v W ↔ ∃ b c cs, v = .slice (some ⟨b, 0, none⟩) N c ∧ w1.heap.size ≤ b ∧ Ints (some ⟨b, 0, none⟩) N b 0 f W ∧ Blk W b cs 3 := Iff.rfl
theorem rsE_10 {vs : List Value} {N : Nat} {f : Nat → Int} {w1 : World} {v : Value} {W : World} : rsE vs N f w1 10 v W ↔ ∃ T, v = .slice (some ⟨T, 0, none⟩) N N ∧ w1.heap.size ≤ T ∧ Blk W T (madeCells #[.slice none 0 0] N) 32 := Iff.rfl
theorem rsE_11 {vs : List Value} {N : Nat} {f : Nat → Int} {w1 : World} {v : Value} {W : World} : rsE vs N f w1 11 v W ↔ ∃ b c cs T, v = .agg #[.slice (some ⟨b, 0, none⟩) N c, .slice (some ⟨T, 0, none⟩) N N] ∧ w1.heap.size ≤ b ∧ Ints (some ⟨b, 0, none⟩) N b 0 f W ∧ Blk W b cs 3 ∧ w1.heap.size ≤ T ∧ Blk W T (madeCells #[.slice none 0 0] N) 32 := Iff.rfl

set_option maxHeartbeats 16000000 in
theorem stepOf_restart (n : NetM) (x : EngM) (v : EvM) (N : Nat) (w : World) (h : n.In w.heap.size w) (hx : x.In w.heap.size w) (hv : v.In w.heap.size w) (hN : n.nodes = N) (hR : x.Right n.net N) (_hcap : x.bag.bn ≤ x.bag.bc) (k : Nat) (hk : v.loc = (k : Int)) (hkd : v.kind = 7) (hkN : k < N) :
  Calls Tryz.prog 10 #[n.val, x.val, v.val] w fun r w' => StepRef n.net x v.ev w r w' := by
 obtain ⟨hN0, hN6, hNN, hnn⟩ := nodes_six hR.check hN
 have hnn' : n.net.nodes = n.nodes := rfl
 have hlen : x.eng.bag.length = x.bag.bn := by show ((List.range x.bag.bn).map x.bag.M).length = _; simp
 have hbn := hR.bn
 have Herr : Hid (x.eng.stepErr n.net v.ev = n.net.row v.rl v.R) := hide (Eng.err_restart (n := n.net) (e := x.eng) (v := v.ev) hkd (show 0 ≤ v.loc by omega) (show v.loc < n.net.nodes by omega))
 have Hstep : Hid (x.eng.step n.net v.ev = x.eng.restart k v.R) := hide (by rw [Eng.does_restart (v := v.ev) hkd]; show x.eng.restart v.loc.toNat v.R = _; rw [hk]; rfl)
 obtain ⟨i2, hi2, hx0, hx1, hx2⟩ := info_parts Tryz.infoInts
 have Hmk : Hid (∀ u : World, (Instr.makeSlice 22 (.int .i64 (N : Int)) (.int .i64 (N : Int))).run Tryz.prog u = .ok (.slice (some ⟨u.heap.size, 0, none⟩) N N) (u.alloc (.cells (madeCells #[.slice none 0 0] N) 32))) := hide (fun u => by
  have h := run_make (P := Tryz.prog) u 22 32 i2 (.slice none 0 0) Tryz.underlying22 hi2 hx0 .i64 .i64 (N : Int) (N : Int) (by omega) (Int.le_refl _) (by rw [hx2]; omega) (by omega)
  simpa [hx1, Value.cells] using h)
 have HCp := hide (fun W (hb : Below w.heap.size w W) => refCopied_any x N W (hx.grown hb) hR.gn hN0 hN6 hR.bn hR.rl hR.tl hR.ll)
 have hs2 : 2 ≤ n.a.size := (Net.good_of_check hR.check).law.good.lo
 have hs24 : n.a.size ≤ 24 := (Net.good_of_check hR.check).law.good.hi
 have HRw := hide (fun a l c b o f (W : World) hi hb => rowOf_any n a l c b o f W hi hb hs2 hs24)
 have hncE : n.cells = #[.int .i64 n.a.size, .slice n.a.B.ga n.a.B.t.len n.a.B.cap, .slice n.a.E.ga n.a.E.t.len n.a.E.cap, .int .i64 N, .slice n.la n.ln n.lc] := by simp only [NetM.cells, Mat.val, hN]
 simp only [EngM.val, EngM.cells, NetM.val, hncE] at HCp HRw
 clear hncE
 obtain ⟨W0, hW0⟩ : ∃ W0, W0 = (((w.alloc (.cells n.cells 27)).alloc (.cells x.cells 31)).alloc (.cells v.cells 34)).alloc (.cells #[.slice none 0 0, .slice none 0 0] 31) := ⟨_, rfl⟩
 have hs0 : SB w n x v W0 := by rw [hW0]; exact SB.start w n x v
 have hz0 : W0.heap.size = w.heap.size + 4 := by rw [hW0]; simp
 have hnc : n.cells = #[.int .i64 n.a.size, .slice n.a.B.ga n.a.B.t.len n.a.B.cap, .slice n.a.E.ga n.a.E.t.len n.a.E.cap, .int .i64 N, .slice n.la n.ln n.lc] := by simp only [NetM.cells, Mat.val, hN]
 have hvc : v.cells = #[.int .i64 7, .int .i64 (k : Int), .int .i64 v.b, .int .i64 v.c, .slice v.ra v.rl v.rc] := by rw [← hkd, ← hk]; rfl
 have hxc : x.cells = #[.slice x.rs.ga x.rs.gn x.rs.gc, .slice x.bag.ba x.bag.bn x.bag.bc] := rfl
 have H := hide h
 have Hx := hide hx
 have Hv := hide hv
 have HR := hide hR
 have Hs0 := hide hs0
 have Hz0 := hide hz0
 have Hnc := hide hnc
 have Hvc := hide hvc
 have Hxc := hide hxc
 have HN := hide hN
 have Hlen := hide hlen
 have Hnn := hide hnn
 have HNN := hide hNN
 have Hkd := hide hkd
 have Hk := hide hk
 have HIs := hide (fun (i : Int) (W : World) => isNode_any n i W (by omega) (by omega))
 simp only [NetM.val, hnc, hN] at HIs
 rw [hnc, hvc, hxc] at hW0
 simp only [NetM.val, EngM.val, EvM.val, hnc, hvc, hxc]
 have HW0 := hide hW0
 have v0 := Hs0.out.bv.cell 0
 have v1 := Hs0.out.bv.cell 1
 have v2 := Hs0.out.bv.cell 2
 have v3 := Hs0.out.bv.cell 3
 have v4 := Hs0.out.bv.cell 4
 rw [Hvc.out] at v0 v1 v2 v3 v4
 simp at v0 v1 v2 v3 v4
 have n0 := Hs0.out.bn.cell 0
 have n1 := Hs0.out.bn.cell 1
 have n2 := Hs0.out.bn.cell 2
 have n3 := Hs0.out.bn.cell 3
 have n4 := Hs0.out.bn.cell 4
 rw [Hnc.out] at n0 n1 n2 n3 n4
 simp at n0 n1 n2 n3 n4
 have x0 := Hs0.out.bx.cell 0
 have x1 := Hs0.out.bx.cell 1
 rw [Hxc.out] at x0 x1
 simp at x0 x1
 clear h hx hv hR hs0 hz0 hnc hvc hxc hN hW0 hlen hnn hNN hkd hnn' hk hi2 hx0 hx1 hx2
 go_enter Tryz.func10, Tryz.ntmps10
 go_wp2_with fail
 rw [← HW0.out]
 go_at_call 24
 refine (between_any _ _ _ _).mono ?_
 rintro e w1 ⟨rfl, hw1⟩
 rw [hw1]
 clear hw1
 have hb1 : (decide ((1 : Int) ≤ 7) && decide ((7 : Int) ≤ 7)) = true := by decide
 rw [hb1]
 clear hb1
 go_wp2_with fail
 go_at_call 24
 refine (between_any _ _ _ _).mono ?_
 rintro e w1 ⟨rfl, hw1⟩
 rw [hw1]
 clear hw1
 have hb2 : (decide ((2 : Int) ≤ 7) && decide ((7 : Int) ≤ 5)) = false := by decide
 rw [hb2]
 clear hb2
 go_wp2_with fail
 go_at_call 25
 refine (HIs.out _ _).mono ?_
 rintro e W1 ⟨rfl, hW1⟩
 have Hb01 : Hid (Below W0.heap.size W0 W1) := hide (by rw [hW1]; exact (Below.refl _ _).alloc (Nat.le_refl _) _)
 have Hs1 := hide (Hs0.out.keep Hb01.out)
 have Hz1 : Hid (w.heap.size + 4 ≤ W1.heap.size) := hide (by have := Hb01.out.size; have := Hz0.out; omega)
 clear hW1  v0 v1 v2 v3 v4 n0 n1 n2 n3 n4 x0 x1
 have v0 := Hs1.out.bv.cell 0
 have v1 := Hs1.out.bv.cell 1
 have v2 := Hs1.out.bv.cell 2
 have v3 := Hs1.out.bv.cell 3
 have v4 := Hs1.out.bv.cell 4
 rw [Hvc.out] at v0 v1 v2 v3 v4
 simp at v0 v1 v2 v3 v4
 have n0 := Hs1.out.bn.cell 0
 have n1 := Hs1.out.bn.cell 1
 have n2 := Hs1.out.bn.cell 2
 have n3 := Hs1.out.bn.cell 3
 have n4 := Hs1.out.bn.cell 4
 rw [Hnc.out] at n0 n1 n2 n3 n4
 simp at n0 n1 n2 n3 n4
 have x0 := Hs1.out.bx.cell 0
 have x1 := Hs1.out.bx.cell 1
 rw [Hxc.out] at x0 x1
 simp at x0 x1
 have hb3 : (decide (0 ≤ (k : Int)) && decide ((k : Int) ≤ (N : Int) - 1)) = true := by simp; omega
 rw [hb3]
 clear hb3
 have HC := hide (HRw.out v.ra v.rl v.rc v.rb v.ro v.R W1 (Hv.out.below Hs1.out.below (Nat.le_refl _)).ints (fun h0 => Nat.lt_of_lt_of_le (Hv.out.lt h0) Hs1.out.below.size))
 go_wp2_with fail
 go_at_call 26
 refine HC.out.mono ?_
 rintro r W2 ⟨rfl, hb12⟩
 have Hs2 := hide (Hs1.out.keep hb12)
 have Hz2 : Hid (w.heap.size + 4 ≤ W2.heap.size) := hide (by have := hb12.size; have := Hz1.out; omega)
 clear hb12 HC  v0 v1 v2 v3 v4 n0 n1 n2 n3 n4 x0 x1
 have v0 := Hs2.out.bv.cell 0
 have v1 := Hs2.out.bv.cell 1
 have v2 := Hs2.out.bv.cell 2
 have v3 := Hs2.out.bv.cell 3
 have v4 := Hs2.out.bv.cell 4
 rw [Hvc.out] at v0 v1 v2 v3 v4
 simp at v0 v1 v2 v3 v4
 have n0 := Hs2.out.bn.cell 0
 have n1 := Hs2.out.bn.cell 1
 have n2 := Hs2.out.bn.cell 2
 have n3 := Hs2.out.bn.cell 3
 have n4 := Hs2.out.bn.cell 4
 rw [Hnc.out] at n0 n1 n2 n3 n4
 simp at n0 n1 n2 n3 n4
 have x0 := Hs2.out.bx.cell 0
 have x1 := Hs2.out.bx.cell 1
 rw [Hxc.out] at x0 x1
 simp at x0 x1
 by_cases k4 : n.net.row v.rl v.R = 0
 rotate_left
 ·have k4' : (n.net.row v.rl v.R == 0) = false := by simpa using k4
  have HF := hide (step_no Hs2.out Herr.out k4)
  have c7 := (Hs2.out.br.set 0 (.slice none 0 0)).set 1 (.slice none 0 0)
  have e0 := c7.cell 0
  have e1 := c7.cell 1
  simp at e0 e1
  have r0 := Hs2.out.br.cell 0
  have r1 := Hs2.out.br.cell 1
  have fr0 := Hs2.out.br.frozen 0
  have fr1 := Hs2.out.br.frozen 1
  simp at r0 r1
  clear c7
  generalize n.net.row v.rl v.R = er at *
  go_wp2
  exact bodyPost_ret (v := .tuple #[.agg #[.slice none 0 0, .slice none 0 0], .int .i64 er]) (by simp [results, Tryz.results10, go_sem, e0, e1]) rfl HF.out
 have Her : Hid (x.eng.stepErr n.net v.ev = 0) := hide (by rw [Herr.out, k4])
 have HvN : Hid (v.rl = N) := hide (by have h1 := (Net.row_zero.1 k4).1; have h2 := Hnn.out; omega)
 rw [k4]
 have HC := hide (HCp.out W2 Hs2.out.below)
 clear k4 HCp
 go_wp2_with fail
 go_at_call 35
 refine HC.out.mono ?_
 rintro r W3 ⟨⟨P0, Bv, y, hL3, rfl⟩, hb3⟩
 obtain ⟨ba, bc, hBv⟩ := own_form hL3.live.bag
 obtain ⟨bl, hbl⟩ : ∃ bl, bl = x.eng.bag.length := ⟨_, rfl⟩
 rw [← hbl] at hBv
 subst hBv
 have Hbl := hide hbl
 obtain ⟨P, hP⟩ : ∃ P, P = W3.heap.size := ⟨_, rfl⟩
 obtain ⟨W4, hW4⟩ : ∃ W4, W4 = W3.alloc (.cells #[.slice (some ⟨y.G, 0, none⟩) N y.gc, .slice ba bl bc] 31) := ⟨_, rfl⟩
 have hbab : Below W3.heap.size W3 W4 := by rw [hW4]; exact (Below.refl _ W3).alloc (Nat.le_refl _) _
 have hbib := hb3.trans (hbab.mono hb3.size)
 have hL4 := hL3.rebox
 rw [← hW4, ← hP] at hL4
 have HL4 := hide hL4.live
 have Hs4 := hide (Hs2.out.keep hbib)
 have Hb4 := hide hbib
 have HW4 := hide hW4
 have HP := hide hP
 clear hL3 hb3 hbab hbib hL4 hW4 hP HC hbl  v0 v1 v2 v3 v4 n0 n1 n2 n3 n4 x0 x1
 have v0 := Hs4.out.bv.cell 0
 have v1 := Hs4.out.bv.cell 1
 have v2 := Hs4.out.bv.cell 2
 have v3 := Hs4.out.bv.cell 3
 have v4 := Hs4.out.bv.cell 4
 rw [Hvc.out] at v0 v1 v2 v3 v4
 simp at v0 v1 v2 v3 v4
 have n0 := Hs4.out.bn.cell 0
 have n1 := Hs4.out.bn.cell 1
 have n2 := Hs4.out.bn.cell 2
 have n3 := Hs4.out.bn.cell 3
 have n4 := Hs4.out.bn.cell 4
 rw [Hnc.out] at n0 n1 n2 n3 n4
 simp at n0 n1 n2 n3 n4
 rw [HW4.out] at v0 v1 v2 v3 v4 n0 n1 n2 n3 n4
 go_wp2_with fail
 rw [← HW4.out, ← HP.out]
 have Hv4 := hide (Hv.out.below Hs4.out.below (Nat.le_refl _))
 have Hvb : Hid (v.rb < w.heap.size) := hide (Hv.out.lt (by have := HvN.out; omega))
 have Hvc2 := Hvc
 rw [HvN.out] at Hvc2
 have HkN := hide hkN
 have hki : (k : Int) < (N : Int) := by omega
 clear v0 v1 v2 v3 v4 n0 n1 n2 n3 n4
 refine wp_region_last 13 _ (fun W => Below W4.heap.size W4 W) (rsE [.pointer (some ⟨P, 0, none⟩), .slice (some ⟨y.G, 0, none⟩) N y.gc, .pointer (some ⟨w.heap.size + 1 + 1, 1, none⟩), .int .i64 (k : Int), undef, .pointer (some ⟨w.heap.size + 1 + 1, 4, none⟩), .slice v.ra N v.rc, undef, .pointer (some ⟨w.heap.size, 3, none⟩), .int .i64 (N : Int), undef, undef, .pointer (some ⟨y.G, k * 2, none⟩)] N v.R W4) (fun _ W => ∃ y', Live W2.heap.size P N (x.eng.restart k v.R) (.slice ba bl bc) y' W ∧ SB w n x v W) (fun _ _ _ => True) (by kernel_rfl) (by kernel_rfl) (by kernel_rfl) (by kernel_rfl) (by kernel_rfl) rfl (show Below W4.heap.size W4 W4.drew from ⟨rfl, rfl, rfl, Nat.le_refl _, fun _ _ => rfl⟩) ⟨?_, ?_, ?_, ?_, ?_, ?_, ?_, ?_, ?_, ?_, ?_, ?_, ?_, trivial⟩ ?_ trivial ?_
 rotate_right
 ·intro t W hG _
  simp only [fill, Act.put, List.setIfInBounds_toArray, List.set_cons_zero, List.set_cons_succ]
  obtain ⟨y', hL, hS⟩ := hG
  have HS := hide hS
  have p0 := hL.head.cell 0
  have p1 := hL.head.cell 1
  simp at p0 p1
  have HF := hide (step_fin hL HS.out (by have := Hz2.out; omega) HR.out.check HN.out (by rw [← Hstep.out]; exact HR.out.fit.step (Net.good_of_check HR.out.check) Her.out) Hstep.out.symm Her.out)
  have c7 := (HS.out.br.set 0 (.slice (some ⟨y'.G, 0, none⟩) N y'.gc)).set 1 (.slice ba bl bc)
  have e0 := c7.cell 0
  have e1 := c7.cell 1
  simp at e0 e1
  have r0 := HS.out.br.cell 0
  have r1 := HS.out.br.cell 1
  have fr0 := HS.out.br.frozen 0
  have fr1 := HS.out.br.frozen 1
  simp at r0 r1
  clear c7 hL hS
  go_wp2
  exact bodyPost_ret (v := .tuple #[.agg #[.slice (some ⟨y'.G, 0, none⟩) N y'.gc, .slice ba bl bc], .int .i64 0]) (by simp [results, Tryz.results10, go_sem, e0, e1]) rfl HF.out
 rotate_right
 ·intro t W hG hE _ K hK
  have e12 := rsE_get (hE 12 (by omega)) (by decide) (by decide) (by decide) (by decide) rfl
  have h11 := rsE_11.1 (hE 11 (by omega))
  simp only [fill, Act.put, List.setIfInBounds_toArray, List.set_cons_zero, List.set_cons_succ, e12] at hK ⊢
  rw [if_pos (by rfl)]
  obtain ⟨b, c, cs, T, e11, hb1, hI, hbb, hT1, hT⟩ := h11
  have hl1 := HL4.out
  have hlW := hl1.below hG
  have hnew : ∀ q, W4.heap.size ≤ q → q < W.heap.size → y.Off P N (.slice ba bl bc) W q := fun q h1 h2 => ⟨by have := hl1.head.lt; omega, by have := hl1.rtrs.lt; omega, fun k hk => by have := (hl1.tolds k hk).lt; omega, fun hv => by have := (hl1.bag.lt _ hv).2; omega, h2, by have := hl1.ylo; have := hl1.head.lt; omega⟩
  have hbT : b ≠ T := fun e => by subst e; have h1 := hbb.symm.trans hT; simp at h1
  have hset := hlW.setRouter (c := c) (tc := N) HkN.out v.R (hnew b hb1 hbb.lt) (fun j hj => by have := hI.cell j hj; simpa using this) hT (fun k hk => made_nil hk) (hnew T hT1 hT.lt) hbT (by have := Hb4.out.size; omega) (fun r hr => by have := (hl1.routes r hr).1.lt; omega) (fun r k hr hk ht => by have := (hl1.rows r hr k hk ht).2.1.lt; omega)
  have c1 := hlW.rtrs.cell (k * 2)
  rw [hlW.r0 k HkN.out] at c1
  have cf := hlW.rtrs.frozen (k * 2)
  have c2 := hlW.rtrs.cell (k * 2 + 1)
  rw [hlW.r1 k HkN.out] at c2
  have cg := hlW.rtrs.frozen (k * 2 + 1)
  have hSw : SB w n x v ((W.setCell ⟨y.G, k * 2, none⟩ (.slice (some ⟨b, 0, none⟩) N c)).setCell ⟨y.G, k * 2 + 1, none⟩ (.slice (some ⟨T, 0, none⟩) N N)) := ((Hs4.out.keep hG).set (by have := hl1.lg; have := Hz2.out; omega) _ _).set (by have := hl1.lg; have := Hz2.out; omega) _ _
  obtain ⟨y', hy'⟩ := hset
  have HN' := hide (And.intro hy' hSw)
  simp only [e11] at hK ⊢
  clear hy' hSw hnew hT hbb hbT e11 e12 hE hI hl1 hlW
  go_simp
  exact hK undef _ ⟨y', HN'.out⟩
 all_goals intro t W hG hp ht K hK
 all_goals clear ht
 all_goals simp only [fill, Act.put, List.setIfInBounds_toArray, List.set_cons_zero, List.set_cons_succ] at hK ⊢
 ·rw [if_pos (by rfl)]
  go_simp
  exact hK _ _ hG (rsE_put (by decide) (by decide) (by decide) (by decide) rfl) (fun _ _ _ h => h)
 ·have e0 := rsE_get (hp 0 (by decide)) (by decide) (by decide) (by decide) (by decide) rfl
  have cx := (HL4.out.below hG).head.cell 0
  simp at cx
  simp only [e0] at hK ⊢
  rw [if_pos (by rfl)]
  go_simp
  exact hK _ _ hG (rsE_put (by decide) (by decide) (by decide) (by decide) rfl) (fun _ _ _ h => h)
 ·rw [if_pos (by rfl)]
  go_simp
  exact hK _ _ hG (rsE_put (by decide) (by decide) (by decide) (by decide) rfl) (fun _ _ _ h => h)
 ·have e2 := rsE_get (hp 2 (by decide)) (by decide) (by decide) (by decide) (by decide) rfl
  have cx := (Hs4.out.keep hG).bv.cell 1
  rw [Hvc2.out] at cx
  simp at cx
  simp only [e2] at hK ⊢
  rw [if_pos (by rfl)]
  go_simp
  exact hK _ _ hG (rsE_put (by decide) (by decide) (by decide) (by decide) rfl) (fun _ _ _ h => h)
 ·rw [if_pos (by rfl)]
  go_simp
  exact hK _ _ (hG.alloc hG.size _) (rsE_4.2 ⟨_, rfl⟩) (fun _ _ _ h => rsE_keep ((Below.refl _ W).alloc (Nat.le_refl _) _) h)
 ·rw [if_pos (by rfl)]
  go_simp
  exact hK _ _ hG (rsE_put (by decide) (by decide) (by decide) (by decide) rfl) (fun _ _ _ h => h)
 ·have e5 := rsE_get (hp 5 (by decide)) (by decide) (by decide) (by decide) (by decide) rfl
  have cx := (Hs4.out.keep hG).bv.cell 4
  rw [Hvc2.out] at cx
  simp at cx
  simp only [e5] at hK ⊢
  rw [if_pos (by rfl)]
  go_simp
  exact hK _ _ hG (rsE_put (by decide) (by decide) (by decide) (by decide) rfl) (fun _ _ _ h => h)
 ·have e6 := rsE_get (hp 6 (by decide)) (by decide) (by decide) (by decide) (by decide) rfl
  obtain ⟨g, e4⟩ := rsE_4.1 (hp 4 (by decide))
  simp only [e4] at hK ⊢
  simp only [e6] at hK ⊢
  rw [if_pos (by rfl)]
  have hin := (Hv4.out.below hG Hs4.out.below.size).ints
  rw [HvN.out] at hin
  obtain ⟨a2, c2, b2, W9, hrun, hI2, hb2, hB2⟩ := append_copy W g v.ra N v.rc v.rb v.ro v.R hin (by omega) 32
  obtain ⟨⟨cs2, hk2⟩, hlo2⟩ := hb2 hN0
  obtain rfl := hI2.addr hN0
  refine wp_append_run (by rfl) _ _ 32 (by rfl) _ _ (by rfl) (by rfl) _ W9 hrun ?_
  exact hK _ W9 (hG.trans (hB2.mono hG.size)) (rsE_7.2 ⟨b2, c2, cs2, rfl, Nat.le_trans hG.size hlo2, hI2, hk2⟩) (fun _ _ _ h => rsE_keep hB2 h)
 ·rw [if_pos (by rfl)]
  go_simp
  exact hK _ _ hG (rsE_put (by decide) (by decide) (by decide) (by decide) rfl) (fun _ _ _ h => h)
 ·have e8 := rsE_get (hp 8 (by decide)) (by decide) (by decide) (by decide) (by decide) rfl
  have cx := (Hs4.out.keep hG).bn.cell 3
  rw [Hnc.out] at cx
  simp at cx
  simp only [e8] at hK ⊢
  rw [if_pos (by rfl)]
  go_simp
  exact hK _ _ hG (rsE_put (by decide) (by decide) (by decide) (by decide) rfl) (fun _ _ _ h => h)
 ·have e9 := rsE_get (hp 9 (by decide)) (by decide) (by decide) (by decide) (by decide) rfl
  simp only [e9] at hK ⊢
  rw [if_pos (by rfl)]
  have hmk := Hmk.out W
  go_simp
  exact hK _ _ (hG.alloc hG.size _) (rsE_10.2 ⟨W.heap.size, rfl, hG.size, Blk.new W _ _⟩) (fun _ _ _ h => rsE_keep ((Below.refl _ W).alloc (Nat.le_refl _) _) h)
 ·obtain ⟨b, c, cs, e7, g1, g2, g3⟩ := rsE_7.1 (hp 7 (by decide))
  obtain ⟨T, e10, g4, g5⟩ := rsE_10.1 (hp 10 (by decide))
  simp only [e7, e10] at hK ⊢
  rw [if_pos (by rfl)]
  go_simp
  exact hK _ _ hG (rsE_11.2 ⟨b, c, cs, T, rfl, g1, g2, g3, g4, g5⟩) (fun _ _ _ h => h)
 ·have e1 := rsE_get (hp 1 (by decide)) (by decide) (by decide) (by decide) (by decide) rfl
  have e3 := rsE_get (hp 3 (by decide)) (by decide) (by decide) (by decide) (by decide) rfl
  simp only [e1, e3] at hK ⊢
  rw [if_pos (by rfl)]
  go_simp
  exact hK _ _ hG (rsE_put (by decide) (by decide) (by decide) (by decide) rfl) (fun _ _ _ h => h)

end Go.Proofs.YtjhkadffaephmabGreat

/-
  signpostref.StepOf.
-/
namespace Go.Proofs.YtjhkadffaephmabGreat

theorem stepOf_any (n : NetM) (x : EngM) (v : EvM) (w : World) (h : n.In w.heap.size w) (hx : x.In w.heap.size w) (hv : v.In w.heap.size w) (hR : x.err n.net = 0) (hcap : x.bag.bn ≤ x.bag.bc) :
    Calls Tryz.prog 10 #[n.val, x.val, v.val] w fun r w' => StepRef n.net x v.ev w r w' := by
  have hck : n.net.check = 0 := by
    unfold EngM.err at hR
    split at hR
    · next h1 => exact absurd hR h1
    · next h1 => omega
  obtain ⟨N, hN⟩ : ∃ N : Nat, n.nodes = N := ⟨n.nodes.toNat, by have := (Net.good_of_check hck).lo; have : n.net.nodes = n.nodes := rfl; omega⟩
  have hr : x.Right n.net N := EngM.right hR hN
  by_cases h7 : v.kind < 1 ∨ 7 < v.kind
  · exact stepOf_kind n x v N w h hx hv hN hr hcap h7
  by_cases h25 : 2 ≤ v.kind ∧ v.kind ≤ 5
  · by_cases hp : v.loc < 0 ∨ (x.bag.bn : Int) ≤ v.loc
    · exact stepOf_place n x v N w h hx hv hN hr hcap h25.1 h25.2 hp
    obtain ⟨k, hk⟩ : ∃ k : Nat, v.loc = k := ⟨v.loc.toNat, by omega⟩
    have hkb : k < x.bag.bn := by omega
    rcases (show v.kind = 2 ∨ v.kind = 3 ∨ v.kind = 4 ∨ v.kind = 5 by omega) with e | e | e | e
    · exact stepOf_deliver n x v N w h hx hv hN hr hcap k hk e hkb
    · exact stepOf_twice n x v N w h hx hv hN hr hcap k hk e hkb
    · exact stepOf_lose n x v N w h hx hv hN hr hcap k hk e hkb
    · by_cases hb : (v.b < 0 ∨ ((x.bag.M k).b.length : Int) ≤ v.b) ∨ (v.c < 1 ∨ 255 < v.c)
      · exact stepOf_spoilNo n x v N w h hx hv hN hr hcap k hk e hkb hb
      · obtain ⟨pl, hpl⟩ : ∃ pl : Nat, v.b = pl := ⟨v.b.toNat, by omega⟩
        obtain ⟨cv, hcv⟩ : ∃ cv : Nat, v.c = cv := ⟨v.c.toNat, by omega⟩
        exact stepOf_spoil n x v N w h hx hv hN hr hcap k hk e hkb pl cv hpl hcv (by omega) (by omega) (by omega)
  · by_cases hp : v.loc < 0 ∨ (N : Int) ≤ v.loc
    · exact stepOf_node n x v N w h hx hv hN hr hcap (by omega) hp
    obtain ⟨k, hk⟩ : ∃ k : Nat, v.loc = k := ⟨v.loc.toNat, by omega⟩
    have hkN : k < N := by omega
    rcases (show v.kind = 1 ∨ v.kind = 6 ∨ v.kind = 7 by omega) with e | e | e
    · exact stepOf_tick n x v N w h hx hv hN hr hcap k hk e hkN
    · exact stepOf_expire n x v N w h hx hv hN hr hcap k hk e hkN
    · exact stepOf_restart n x v N w h hx hv hN hr hcap k hk e hkN

end Go.Proofs.YtjhkadffaephmabGreat

/-
  engine.deliverAll.
-/
namespace Go.Proofs.YtjhkadffaephmabGreat
set_option maxRecDepth 100000
open Go.RowKit

/-- How many are on their way, by the head's second cell. -/
def bagLen (P : Nat) (W : World) : Nat := match W.cell? ⟨P, 1, none⟩ with
  | some (.slice _ l _) => l
  | _ => 0

structure AllI (n : NetM) (base P N b2 : Nat) (e0 e : Eng) (Bv : Value) (y : Lay) (w W : World) : Prop where
  live : Live base P N e Bv y W
  fit : e.Fit n.net
  same : e.comes n.net = e0.comes n.net
  net : Blk W b2 n.cells 27
  off : y.Off P N Bv W b2
  below : Below base w W

theorem comes_deliver {n : Net} {e : Eng} (h : 0 < e.bag.length) : (e.deliver n 0).comes n = e.comes n := by
  unfold Eng.comes
  have hl : (e.deliver n 0).bag.length = e.bag.length - 1 := by
    rw [Eng.deliver_bag, List.length_eraseIdx, if_pos h]
  rw [hl]
  obtain ⟨k, hk⟩ : ∃ k, e.bag.length = k + 1 := ⟨e.bag.length - 1, by omega⟩
  rw [hk]
  rfl
theorem bagLen_live {base P N : Nat} {e : Eng} {Bv : Value} {y : Lay} {W : World} (h : Live base P N e Bv y W) : bagLen P W = e.bag.length := by
  have x1 := h.head.cell 1
  obtain ⟨ba, bc, hBv⟩ : ∃ ba bc, Bv = .slice ba e.bag.length bc := by
    rcases Go.Joins.ownsRow_forms h.bag with ⟨e0, e2⟩ | ⟨g, cap, e2⟩
    · exact ⟨none, 0, by rw [e0, e2]⟩
    · exact ⟨_, _, e2⟩
  simp at x1
  rw [hBv] at x1
  unfold bagLen
  rw [x1]

set_option maxHeartbeats 2000000 in
theorem deliverAll_any (n : NetM) (base P N : Nat) (e : Eng) (Bv : Value) (y : Lay) (w : World) (h : n.In base w) (hck : n.net.check = 0) (hN : n.nodes = N) (hL : Live base P N e Bv y w) (hfit : e.Fit n.net) :
    Calls Tryz.prog 40 #[n.val, .pointer (some ⟨P, 0, none⟩)] w fun r w' => r = .returned (.tuple #[]) ∧ (∃ Bv' y', Live base P N (e.comes n.net) Bv' y' w') ∧ Below base w w' := by
  have g := Net.good_of_check hck
  have hbw : base ≤ w.heap.size := Nat.le_of_lt (Nat.lt_of_le_of_lt hL.lp hL.head.lt)
  have hcells : n.cells = #[.int .i64 n.a.size, .slice n.a.B.ga n.a.B.t.len n.a.B.cap, .slice n.a.E.ga n.a.E.t.len n.a.E.cap, .int .i64 N, .slice n.la n.ln n.lc] := by simp only [NetM.cells, Mat.val, hN]
  obtain ⟨W1, hW1⟩ : ∃ W1, W1 = w.alloc (.cells n.cells 27) := ⟨_, rfl⟩
  have hB1 : Below w.heap.size w W1 := by rw [hW1]; exact (Below.refl _ w).alloc (Nat.le_refl _) _
  have b2 : Blk W1 w.heap.size n.cells 27 := by rw [hW1]; exact Blk.new w _ _
  have HI0 : Hid (∃ e1 Bv1 y1, AllI n base P N w.heap.size e e1 Bv1 y1 w W1) := hide ⟨e, Bv, y, hL.below hB1, hfit, rfl, b2, ⟨by have := hL.head.lt; omega, by have := hL.rtrs.lt; omega, fun k hk => by have := (hL.tolds k hk).lt; omega, fun hv => by have := (hL.bag.lt _ hv).2; omega, b2.lt, by have := hL.ylo; have := hL.head.lt; omega⟩, hB1.mono hbw⟩
  have H := hide h
  have HN := hide hN
  have Hcells := hide hcells
  rw [hcells] at hW1
  have HW1 := hide hW1
  rw [NetM.val, hcells]
  clear h hL hfit hbw hB1 b2 hW1 hcells hN
  go_enter Tryz.func40, Tryz.ntmps40
  go_wp2_with fail
  rw [← HW1.out]
  go_loopw [] (fun wr => Hid (∃ e1 Bv1 y1, AllI n base P N w.heap.size e e1 Bv1 y1 w wr)) (fun wr => bagLen P wr)
  case atStart => exact HI0
  case round =>
    obtain ⟨e1, Bv1, y1, hI⟩ := hrel.out
    obtain ⟨ba, bc, hBv⟩ : ∃ ba bc, Bv1 = .slice ba e1.bag.length bc := by
      rcases Go.Joins.ownsRow_forms hI.live.bag with ⟨e0, e2⟩ | ⟨g, cap, e2⟩
      · exact ⟨none, 0, by rw [e0, e2]⟩
      · exact ⟨_, _, e2⟩
    have x1 := hI.live.head.cell 1
    simp at x1
    rw [hBv] at x1
    by_cases hlt : 0 < e1.bag.length
    · have HD : Hid (Calls Tryz.prog 69 #[n.val, .pointer (some ⟨P, 0, none⟩), .int .i64 0] wr fun r w' => r = .returned (.tuple #[]) ∧ (∃ Bv' y', Live base P N (e1.deliver n.net 0) Bv' y' w' ∧ KeptO y1 y' P N Bv1 Bv' wr w') ∧ Below base wr w') := hide (deliver_all n base P N 0 e1 Bv1 y1 wr (H.out.below hI.below (Nat.le_refl _)) hck HN.out hI.live hI.fit hlt)
      rw [NetM.val, Hcells.out] at HD
      have z0 := hI.net.cell 0
      have z1 := hI.net.cell 1
      have z2 := hI.net.cell 2
      have z3 := hI.net.cell 3
      have z4 := hI.net.cell 4
      simp only [Hcells.out] at z0 z1 z2 z3 z4
      simp at z0 z1 z2 z3 z4
      have HI := hide hI
      have hli : (0 : Int) < (e1.bag.length : Int) := by omega
      have Hlt := hide hlt
      have HbL := hide (bagLen_live hI.live)
      obtain ⟨len, hlen⟩ : ∃ len, len = e1.bag.length := ⟨_, rfl⟩
      rw [← hlen] at x1 hli HbL
      have Hlen := hide hlen
      clear hI hBv hlt HI0 hrel hlen
      go_wp2_with fail
      go_at_call 69
      refine HD.out.mono ?_
      rintro r w2 ⟨rfl, ⟨Bv2, y2, hl2, hko⟩, hb2⟩
      obtain ⟨k1, k2⟩ := hko _ HI.out.off
      have hn2 : Blk w2 w.heap.size n.cells 27 := by
        have := HI.out.net
        unfold Blk at this ⊢
        rw [k1]; exact this
      have HI2 : Hid (∃ e1 Bv1 y1, AllI n base P N w.heap.size e e1 Bv1 y1 w w2) := hide ⟨e1.deliver n.net 0, Bv2, y2, hl2, HI.out.fit.deliver g 0, (comes_deliver Hlt.out).trans HI.out.same, hn2, k2, HI.out.below.trans hb2⟩
      have Hme : Hid (bagLen P w2 < bagLen P wr) := hide (by
        rw [bagLen_live hl2, HbL.out, Eng.deliver_bag, List.length_eraseIdx, if_pos Hlt.out]
        have := Hlen.out
        have := Hlt.out
        omega)
      clear hl2 hko hb2 k1 k2 hn2 HD HI
      go_wp2
      go_roundw
      case rel =>
        first
        | exact HI2
        | ((repeat apply Exists.intro); refine ⟨?_, rfl⟩; exact HI2)
      case measure => exact Hme.out
    · have h0 : e1.bag.length = 0 := by omega
      have hcm : e1.comes n.net = e1 := by unfold Eng.comes; rw [h0]; rfl
      have HF : Hid ((∃ Bv' y', Live base P N (e.comes n.net) Bv' y' wr) ∧ Below base w wr) := hide ⟨⟨Bv1, y1, by rw [← hI.same, hcm]; exact hI.live⟩, hI.below⟩
      rw [h0] at x1
      clear hI hBv hlt hcm HI0 hrel h0
      go_wp2
      go_end0
      exact ⟨rfl, HF.out⟩

end Go.Proofs.YtjhkadffaephmabGreat

/-
 signpostref.CalmOf.
-/
namespace Go.Proofs.YtjhkadffaephmabGreat
set_option maxRecDepth 100000
open Go.RowKit

/-- An engine of which nothing lies in a box for engines below b. -/
def EngM.Over (m : EngM) (b : Nat) (W : World) : Prop := ∀ q, q < b → (∃ a l c a' l' c', Blk W q #[.slice a l c, .slice a' l' c'] 31) → m.Clear q
theorem EngM.Apart.over {m : EngM} {W : World} (h : m.Apart W) (b : Nat) : m.Over b W := fun q _ ⟨_, _, _, _, _, _, hq⟩ => h q _ _ _ _ _ _ hq
theorem EngM.Over.keep {m : EngM} {b : Nat} {W W' : World} (h : m.Over b W) (hb : Below W.heap.size W W') (hl : b ≤ W.heap.size) : m.Over b W' := fun q hq ⟨a, l, c, a', l', c', hk⟩ => h q hq ⟨a, l, c, a', l', c', (hb.block q (by omega)).symm.trans hk⟩
theorem EngM.Over.set2 {m : EngM} {b : Nat} {W : World} (h : m.Over b W) {q : Nat} {a a' : Option Addr} {l c l' c' : Nat} (hq : Blk W q #[.slice a l c, .slice a' l' c'] 31) (u v : Value) : m.Over b ((W.setCell ⟨q, 0, none⟩ u).setCell ⟨q, 1, none⟩ v) := fun p hp ⟨a2, l2, c2, a3, l3, c3, hk⟩ => by
 by_cases e : p = q
 ·subst e; exact h p hp ⟨_, _, _, _, _, _, hq⟩
 ·refine h p hp ⟨a2, l2, c2, a3, l3, c3, ?_⟩
  have h1 : ((W.setCell ⟨q, 0, none⟩ u).setCell ⟨q, 1, none⟩ v).heap[p]? = W.heap[p]? := by rw [Below.heap_setCell _ _ _ _ e, Below.heap_setCell _ _ _ _ e]
  exact h1.symm.trans hk
/-- An event without routes. -/
def evM (k i : Int) : EvM := ⟨k, i, 0, 0, none, 0, 0, 0, 0, fun _ => 0⟩
theorem evM_in (k i : Int) (N : Nat) (w : World) : (evM k i).In N w :=
 ⟨⟨fun h => absurd h (Nat.lt_irrefl _), fun _ hi => absurd hi (Nat.not_lt_zero _), Nat.zero_le _⟩, fun h => absurd h (Nat.lt_irrefl _), Nat.zero_le _⟩
/-- The engine of CalmOf and PlayOf, in its box. -/
structure CkG (w : World) (n : NetM) (x m : EngM) (W : World) : Prop where
 below : Below w.heap.size w W
 bn : Blk W w.heap.size n.cells 27
 be : Blk W (w.heap.size + 1) m.cells 31
 br : Blk W (w.heap.size + 2) #[.slice none 0 0, .slice none 0 0] 31
 mem : m.In W.heap.size W
 err : m.err n.net = 0
 cap : m.bag.bn ≤ m.bag.bc
 src : m = x ∨ m.Over (w.heap.size + 3) W
theorem CkG.keep {w : World} {n : NetM} {x m : EngM} {W W' : World} (h : CkG w n x m W) (hb : Below W.heap.size W W') : CkG w n x m W' :=
 ⟨h.below.trans (hb.mono h.below.size), h.bn.below hb h.bn.lt, h.be.below hb h.be.lt, h.br.below hb h.br.lt, h.mem.grown hb, h.err, h.cap, h.src.imp id (fun h1 => h1.keep hb (by have := h.br.lt; omega))⟩
/-- Another engine is put into the box. -/
theorem CkG.put {w : World} {n : NetM} {x m m' : EngM} {W W' : World} (h : CkG w n x m W) (hb : Below W.heap.size W W') (hm : m'.In W'.heap.size W') (he : m'.err n.net = 0) (hc : m'.bag.bn ≤ m'.bag.bc) (ha : m'.Over (w.heap.size + 3) W') :
  CkG w n x m' ((W'.setCell ⟨w.heap.size + 1, 0, none⟩ (.slice m'.rs.ga m'.rs.gn m'.rs.gc)).setCell ⟨w.heap.size + 1, 1, none⟩ (.slice m'.bag.ba m'.bag.bn m'.bag.bc)) := by
 have h2 := h.keep hb
 have hcl := ha (w.heap.size + 1) (by omega) ⟨_, _, _, _, _, _, h2.be⟩
 exact ⟨(h2.below.setCell (p := ⟨w.heap.size + 1, 0, none⟩) (by show w.heap.size ≤ w.heap.size + 1; omega) _).setCell (p := ⟨w.heap.size + 1, 1, none⟩) (by show w.heap.size ≤ w.heap.size + 1; omega) _, (h2.bn.other (by omega) _ _).other (by omega) _ _, h2.be.set2 _ _, (h2.br.other (by omega) _ _).other (by omega) _ _, by simpa using (hm.set hcl 0 _).set hcl 1 _, he, hc, Or.inr (ha.set2 h2.be _ _)⟩
/-- What CalmOf and PlayOf hand back. -/
structure CkAns (w : World) (n : NetM) (x m : EngM) (W : World) : Prop where
 below : Below w.heap.size w W
 mem : m.In W.heap.size W
 err : m.err n.net = 0
 cap : m.bag.bn ≤ m.bag.bc
 src : m = x ∨ m.Over w.heap.size w
theorem CkG.out {w : World} {n : NetM} {x m : EngM} {W : World} (h : CkG w n x m W) (hx : x.In w.heap.size w) :
  CkAns w n x m ((W.setCell ⟨w.heap.size + 2, 0, none⟩ (.slice m.rs.ga m.rs.gn m.rs.gc)).setCell ⟨w.heap.size + 2, 1, none⟩ (.slice m.bag.ba m.bag.bn m.bag.bc)) := by
 have hcl : m.Clear (w.heap.size + 2) := by
  rcases h.src with e | h1
  ·rw [e]; exact hx.clear (by omega)
  ·exact h1 _ (by omega) ⟨_, _, _, _, _, _, h.br⟩
 exact ⟨(h.below.setCell (p := ⟨w.heap.size + 2, 0, none⟩) (by show w.heap.size ≤ w.heap.size + 2; omega) _).setCell (p := ⟨w.heap.size + 2, 1, none⟩) (by show w.heap.size ≤ w.heap.size + 2; omega) _, by simpa using (h.mem.set hcl 0 _).set hcl 1 _, h.err, h.cap, h.src.imp id (fun h1 q hq ⟨a, l, c, a', l', c', hk⟩ => h1 q (by omega) ⟨a, l, c, a', l', c', hk.below h.below hq⟩)⟩
theorem CkG.step {w : World} {n : NetM} {x m : EngM} {W : World} (hn : n.In w.heap.size w) (h : CkG w n x m W) (k i : Int) (h0 : m.eng.stepErr n.net (evM k i).ev = 0) :
  Calls Tryz.prog 10 #[n.val, m.val, (evM k i).val] W fun r w' => Below W.heap.size W w' ∧ ∃ m' : EngM, r = .returned (.tuple #[m'.val, .int .i64 0]) ∧ m'.In w'.heap.size w' ∧ m'.eng = m.eng.step n.net (evM k i).ev ∧ m'.err n.net = 0 ∧ m'.bag.bn ≤ m'.bag.bc ∧ m'.Over (w.heap.size + 3) w' := by
 refine (stepOf_any n m (evM k i) W (hn.grown h.below) h.mem (evM_in _ _ _ _) h.err h.cap).mono ?_
 rintro r w' ⟨hb, h1 | h1⟩
 ·exact absurd h0 h1.1
 ·obtain ⟨_, m', e1, e2, e3, e4, e5, e6⟩ := h1
  exact ⟨hb, m', e1, e2, e3, e4, e5, e6.over _⟩

/-- Ahead of round k. -/
def Eng.calmAt (n : Net) (e : Eng) : Nat → Eng
 | 0 => e
 | k + 1 => e.calm n k
theorem Eng.calmAt_succ (n : Net) (e : Eng) (k : Nat) : ((e.calmAt n (k + 1)).ticks n n.N).comes n = e.calmAt n (k + 2) := rfl
theorem Eng.calmAt_bag (n : Net) (e : Eng) : ∀ k, (e.calmAt n (k + 1)).bag = []
 | 0 => Eng.comes_bag _
 | _ + 1 => Eng.comes_bag _
theorem Eng.comes_none {n : Net} {e : Eng} (h : e.bag.length = 0) : e.comes n = e := by unfold Eng.comes; rw [h]; rfl

set_option maxHeartbeats 8000000 in
theorem calmOf_any (n : NetM) (x : EngM) (R : Nat) (w : World) (h : n.In w.heap.size w) (hx : x.In w.heap.size w) (herr : x.err n.net = 0) (hcap : x.bag.bn ≤ x.bag.bc) (hR : R ≤ 100) :
  Calls Tryz.prog 17 #[n.val, x.val, .int .i64 (R : Int)] w fun r w' => ∃ m : EngM, r = .returned m.val ∧ CkAns w n x m w' ∧ m.eng = x.eng.calm n.net R := by
 have hck : n.net.check = 0 := by
  unfold EngM.err at herr
  split at herr
  ·next h1 => exact absurd herr h1
  ·next h1 => omega
 obtain ⟨N, hN⟩ : ∃ N : Nat, n.nodes = N := ⟨n.nodes.toNat, by have := (Net.good_of_check hck).lo; have : n.net.nodes = n.nodes := rfl; omega⟩
 obtain ⟨hN0, hN6, hNN, hnn⟩ := nodes_six hck hN
 obtain ⟨W0, hW0⟩ : ∃ W0, W0 = ((w.alloc (.cells n.cells 27)).alloc (.cells x.cells 31)).alloc (.cells #[.slice none 0 0, .slice none 0 0] 31) := ⟨_, rfl⟩
 have hB0 : Below w.heap.size w W0 := by rw [hW0]; exact (((Below.refl _ w).alloc (Nat.le_refl _) _).alloc (by simp) _).alloc (by simp; omega) _
 have HI0 : Hid (∃ m, CkG w n x m W0 ∧ m.eng = x.eng.calmAt n.net 0) := hide ⟨x, ⟨hB0, by rw [hW0]; exact ((Blk.new w _ _).alloc _).alloc _, by rw [hW0]; exact (show Blk _ (w.heap.size + 1) _ _ from Blk.new' (by simp)).alloc _, by rw [hW0]; exact Blk.new' (by simp), hx.grown hB0, herr, hcap, Or.inl rfl⟩, rfl⟩
 have HSt := hide (fun (m : EngM) (W : World) (hG : CkG w n x m W) (k i : Int) h0 => CkG.step h hG k i h0)
 have hnc : n.cells = #[.int .i64 n.a.size, .slice n.a.B.ga n.a.B.t.len n.a.B.cap, .slice n.a.E.ga n.a.E.t.len n.a.E.cap, .int .i64 N, .slice n.la n.ln n.lc] := by simp only [NetM.cells, Mat.val, hN]
 have hxc : x.cells = #[.slice x.rs.ga x.rs.gn x.rs.gc, .slice x.bag.ba x.bag.bn x.bag.bc] := rfl
 simp only [NetM.val, EngM.val, EngM.cells, EvM.val, EvM.cells, evM, hnc] at HSt
 rw [hnc, hxc] at hW0
 simp only [NetM.val, EngM.val, hnc, hxc]
 have HW0 := hide hW0
 have Hx := hide hx
 have Hnc := hide hnc
 have Hnn := hide hnn
 have HNN := hide hNN
 clear h hx herr hcap hck hN hnn hNN hB0 hW0 hnc hxc
 go_enter Tryz.func17, Tryz.ntmps17
 go_wp2_with fail
 rw [← HW0.out]
 clear HW0
 go_loopw [7, 8] (fun q _ wr => ∃ k : Nat, k ≤ R + 1 ∧ q = .int .i64 k ∧ Hid (∃ m, CkG w n x m wr ∧ m.eng = x.eng.calmAt n.net k)) (fun q _ _ => R + 1 - (intOf q).toNat)
 case atStart => exact ⟨0, by omega, rfl, HI0⟩
 case round =>
  clear HI0
  obtain ⟨k, hk, rfl, HI⟩ := hrel
  by_cases hlt : k ≤ R
  ·have hki : (k : Int) ≤ (R : Int) := by omega
   have HI1 : Hid (∃ m, CkG w n x m wr ∧ m.eng = (x.eng.calmAt n.net k).ticks n.net 0) := HI
   go_wp2_with fail
   clear HI
   go_loopw [8] (fun q wr => ∃ i : Nat, i ≤ N ∧ (k = 0 → i = 0) ∧ q = .int .i64 i ∧ Hid (∃ m, CkG w n x m wr ∧ m.eng = (x.eng.calmAt n.net k).ticks n.net i)) (fun q _ => N - (intOf q).toNat)
   case atStart => exact ⟨0, by omega, fun _ => rfl, rfl, HI1⟩
   case round =>
    clear HI1
    obtain ⟨i, hi, hi0, rfl, HI⟩ := hrel
    obtain ⟨m, hG, hm⟩ := HI.out
    have n0 := hG.bn.cell 0
    have n1 := hG.bn.cell 1
    have n2 := hG.bn.cell 2
    have n3 := hG.bn.cell 3
    have n4 := hG.bn.cell 4
    rw [Hnc.out] at n0 n1 n2 n3 n4
    simp at n0 n1 n2 n3 n4
    have x0 := hG.be.cell 0
    have x1 := hG.be.cell 1
    simp [EngM.cells] at x0 x1
    have HG := hide hG
    have Hm := hide hm
    clear hG hm HI
    by_cases hgo : i < N ∧ 0 < k
    ·have hii : (i : Int) < (N : Int) := by omega
     have hkk : (0 : Int) < (k : Int) := by omega
     have Her : Hid (m.eng.stepErr n.net ⟨1, i, 0, 0, 0, fun _ => 0⟩ = 0) := hide (by
      rw [Eng.err_tick rfl (show (0 : Int) ≤ i by omega) (show (i : Int) < n.net.nodes by rw [Hnn.out]; exact hii), if_neg]
      obtain ⟨k', rfl⟩ : ∃ k', k = k' + 1 := ⟨k - 1, by omega⟩
      have h1 := Eng.ticks_bag (n := n.net) (x.eng.calmAt n.net (k' + 1)) i
      rw [Eng.calmAt_bag, HNN.out] at h1
      have h2 := n.net.hearers_le i
      have h3 : i * N ≤ 6 * 6 := Nat.mul_le_mul (by omega) hN6
      rw [Hm.out]
      show ¬ 120 < _ + (n.net.hearers i).length
      simp at h1
      have := HNN.out
      omega)
     have HC := hide (HSt.out m wr HG.out 1 i Her.out)
     clear hgo
     go_wp2_with fail
     go_at_call 10
     refine HC.out.mono ?_
     rintro r W2 ⟨hb2, m2, rfl, hm2, hme, hmr, hmc, hma⟩
     have hG2 := HG.out.keep hb2
     have c0 := hG2.be.cell 0
     have c1 := hG2.be.cell 1
     have f0 := hG2.be.frozen 0
     have f1 := hG2.be.frozen 1
     simp [EngM.cells] at c0 c1
     have HI2 : Hid (∃ m, CkG w n x m ((W2.setCell ⟨w.heap.size + 1, 0, none⟩ (.slice m2.rs.ga m2.rs.gn m2.rs.gc)).setCell ⟨w.heap.size + 1, 1, none⟩ (.slice m2.bag.ba m2.bag.bn m2.bag.bc)) ∧ m.eng = (x.eng.calmAt n.net k).ticks n.net (i + 1)) := hide ⟨m2, HG.out.put hb2 hm2 hmr hmc hma, by
      rw [hme, Eng.does_tick rfl, Hm.out]; rfl⟩
     clear hG2 hb2 hm2 hme hmr hmc hma HC HG Her n0 n1 n2 n3 n4 x0 x1
     go_wp2
     go_roundw
     case rel =>
      first
      | exact ⟨i + 1, by omega, fun h0 => by omega, by go_num, HI2⟩
      | ((repeat apply Exists.intro); refine ⟨?_, rfl⟩; exact ⟨i + 1, by omega, fun h0 => by omega, by go_num, HI2⟩)
     case measure => simp [intOf]; omega
    ·have HT : Hid (((x.eng.calmAt n.net k).ticks n.net i).comes n.net = x.eng.calmAt n.net (k + 1)) := hide (by
      rcases Nat.eq_zero_or_pos k with e | e
      ·subst e
       rw [hi0 rfl]
       rfl
      ·obtain ⟨k', rfl⟩ : ∃ k', k = k' + 1 := ⟨k - 1, by omega⟩
       rw [show i = n.net.N by rw [HNN.out]; omega]
       exact Eng.calmAt_succ n.net x.eng k')
     have HI1 : Hid (∃ m, CkG w n x m wr ∧ m.eng.comes n.net = x.eng.calmAt n.net (k + 1)) := hide ⟨m, HG.out, by rw [Hm.out]; exact HT.out⟩
     clear HT HG Hm x0 x1
     have hcase : (¬ (i : Int) < (N : Int)) ∨ ((i : Int) < (N : Int) ∧ ¬ (0 : Int) < (k : Int)) := by omega
     clear hgo hi0
     rcases hcase with hc1 | ⟨hc1, hc2⟩
     all_goals
      go_wp2_with fail
      clear n0 n1 n2 n3 n4
      go_loopw [] (fun wr => Hid (∃ m, CkG w n x m wr ∧ m.eng.comes n.net = x.eng.calmAt n.net (k + 1))) (fun wr => bagLen (w.heap.size + 1) wr)
      case atStart => exact HI1
      case round =>
       clear HI1
       obtain ⟨m, hG, hm⟩ := hrel.out
       have n0 := hG.bn.cell 0
       have n1 := hG.bn.cell 1
       have n2 := hG.bn.cell 2
       have n3 := hG.bn.cell 3
       have n4 := hG.bn.cell 4
       rw [Hnc.out] at n0 n1 n2 n3 n4
       simp at n0 n1 n2 n3 n4
       have x0 := hG.be.cell 0
       have x1 := hG.be.cell 1
       simp [EngM.cells] at x0 x1
       have hln : m.eng.bag.length = m.bag.bn := by show ((List.range m.bag.bn).map m.bag.M).length = _; simp
       have hbn : m.bag.bn ≤ 120 := (EngM.right hG.err (show n.net.nodes = (N : Int) from Hnn.out)).bn
       have HbL : Hid (bagLen (w.heap.size + 1) wr = m.bag.bn) := hide (by unfold bagLen; rw [x1])
       have HG := hide hG
       have Hm := hide hm
       have Hln := hide hln
       clear hG hm hrel hln
       by_cases hne : 0 < m.bag.bn
       ·have hnei : (0 : Int) < (m.bag.bn : Int) := by omega
        have Her : Hid (m.eng.stepErr n.net ⟨2, 0, 0, 0, 0, fun _ => 0⟩ = 0) := hide (Eng.err_deliver rfl (Int.le_refl _) (by rw [Hln.out]; exact hnei))
        have HC := hide (HSt.out m wr HG.out 2 0 Her.out)
        go_wp2_with fail
        go_at_call 10
        refine HC.out.mono ?_
        rintro r W2 ⟨hb2, m2, rfl, hm2, hme, hmr, hmc, hma⟩
        have hG2 := HG.out.keep hb2
        have c0 := hG2.be.cell 0
        have c1 := hG2.be.cell 1
        have f0 := hG2.be.frozen 0
        have f1 := hG2.be.frozen 1
        simp [EngM.cells] at c0 c1
        have hG3 := HG.out.put hb2 hm2 hmr hmc hma
        have hme2 : m2.eng = m.eng.deliver n.net 0 := by rw [hme, Eng.does_deliver rfl]; rfl
        have HI2 : Hid (∃ m, CkG w n x m ((W2.setCell ⟨w.heap.size + 1, 0, none⟩ (.slice m2.rs.ga m2.rs.gn m2.rs.gc)).setCell ⟨w.heap.size + 1, 1, none⟩ (.slice m2.bag.ba m2.bag.bn m2.bag.bc)) ∧ m.eng.comes n.net = x.eng.calmAt n.net (k + 1)) := hide ⟨m2, hG3, by rw [hme2, comes_deliver (by rw [Hln.out]; exact hne)]; exact Hm.out⟩
        have Hme : Hid (bagLen (w.heap.size + 1) ((W2.setCell ⟨w.heap.size + 1, 0, none⟩ (.slice m2.rs.ga m2.rs.gn m2.rs.gc)).setCell ⟨w.heap.size + 1, 1, none⟩ (.slice m2.bag.ba m2.bag.bn m2.bag.bc)) < bagLen (w.heap.size + 1) wr) := hide (by
         rw [HbL.out]
         have h1 := hG3.be.cell 1
         simp [EngM.cells] at h1
         unfold bagLen
         rw [h1]
         have h2 : m2.eng.bag.length = m2.bag.bn := by show ((List.range m2.bag.bn).map m2.bag.M).length = _; simp
         rw [hme2, Eng.deliver_bag, List.length_eraseIdx, if_pos (by rw [Hln.out]; exact hne), Hln.out] at h2
         show m2.bag.bn < m.bag.bn
         omega)
        clear hG2 hG3 hme2 hb2 hm2 hme hmr hmc hma HC HG Her n0 n1 n2 n3 n4 x0 x1 HbL
        go_wp2
        go_roundw
        case rel =>
         first
         | exact HI2
         | ((repeat apply Exists.intro); refine ⟨?_, rfl⟩; exact HI2)
        case measure => exact Hme.out
       ·have hnei : ¬ (0 : Int) < (m.bag.bn : Int) := by omega
        have HI2 : Hid (∃ m, CkG w n x m wr ∧ m.eng = x.eng.calmAt n.net (k + 1)) := hide ⟨m, HG.out, by rw [← Hm.out, Eng.comes_none (by rw [Hln.out]; omega)]⟩
        clear HG Hm Hln HbL hne
        go_wp2
        go_roundw
        case rel =>
         first
         | exact ⟨k + 1, by omega, by go_num, HI2⟩
         | ((repeat apply Exists.intro); refine ⟨?_, rfl⟩; exact ⟨k + 1, by omega, by go_num, HI2⟩)
        case measure => simp [intOf]; omega
  ·have hkn : k = R + 1 := by omega
   have hki : ¬ (k : Int) ≤ (R : Int) := by omega
   obtain ⟨m, hG, hm⟩ := HI.out
   have x0 := hG.be.cell 0
   have x1 := hG.be.cell 1
   simp [EngM.cells] at x0 x1
   have c7 := hG.br.set2 (.slice m.rs.ga m.rs.gn m.rs.gc) (.slice m.bag.ba m.bag.bn m.bag.bc)
   have e0 := c7.cell 0
   have e1 := c7.cell 1
   have r0 := hG.br.cell 0
   have r1 := hG.br.cell 1
   have fr0 := hG.br.frozen 0
   have fr1 := hG.br.frozen 1
   simp at e0 e1 r0 r1
   have HF := hide (And.intro (hG.out Hx.out) (show m.eng = x.eng.calm n.net R by rw [hm, hkn]; rfl))
   clear hG hm HI c7 hkn
   go_wp2
   exact bodyPost_ret (v := .agg #[.slice m.rs.ga m.rs.gn m.rs.gc, .slice m.bag.ba m.bag.bn m.bag.bc]) (by simp [results, Tryz.results17, go_sem, e0, e1]) rfl ⟨m, rfl, HF.out⟩

end Go.Proofs.YtjhkadffaephmabGreat
