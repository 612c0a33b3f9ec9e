/-
  Our own texts, bundled: a claim holds few files.
-/
import Derived.Test.YtjhkadffaephmabGreatCutEngineStepsCE
import Derived.Test.YtjhkadffaephmabGreatCutEngineStepsCF
import Derived.Test.YtjhkadffaephmabGreatCutEngineStepsCB
import Derived.Lib.AppendZeros
import Derived.Test.YtjhkadffaephmabGreatCutEngineStepsCH
import Derived.Test.YtjhkadffaephmabGreatCutEngineStepsCJ
import Derived.Test.YtjhkadffaephmabGreatCutEngineStepsDA
import Derived.Test.YtjhkadffaephmabGreatCutEngineStepsDB
import Derived.Test.YtjhkadffaephmabGreatCutEngineStepsCC
import Derived.Test.YtjhkadffaephmabGreatCutEngineStepsBJ
import Derived.Test.YtjhkadffaephmabGreatCutEngineStepsBH
import Derived.Test.YtjhkadffaephmabGreatCutEngineStepsAC
import Derived.Test.YtjhkadffaephmabGreatCutEngineStepsAJ
import Derived.Test.YtjhkadffaephmabGreatCutEngineStepsAI
/-
  signpostref.StepOf: a router starts anew.
-/
namespace Go.Proofs.YtjhkadffaephmabGreat
set_option maxRecDepth 100000
open Go.RowKit

/-- While a router is made anew. -/
def rsE (vs : List Value) (N : Nat) (f : Nat → Int) (w1 : World) (q : Nat) (v : Value) (W : World) : Prop :=
  match q with
  | 4 => ∃ g, v = .slice (some ⟨g, 0, none⟩) 0 0
  | 7 => ∃ b c cs, v = .slice (some ⟨b, 0, none⟩) N c ∧ w1.heap.size ≤ b ∧ Ints (some ⟨b, 0, none⟩) N b 0 f W ∧ Blk W b cs 3
  | 10 => ∃ T, v = .slice (some ⟨T, 0, none⟩) N N ∧ w1.heap.size ≤ T ∧ Blk W T (madeCells #[.slice none 0 0] N) 32
  | 11 => ∃ b c cs T, v = .agg #[.slice (some ⟨b, 0, none⟩) N c, .slice (some ⟨T, 0, none⟩) N N] ∧ w1.heap.size ≤ b ∧ Ints (some ⟨b, 0, none⟩) N b 0 f W ∧ Blk W b cs 3 ∧ w1.heap.size ≤ T ∧ Blk W T (madeCells #[.slice none 0 0] N) 32
  | q => vs[q]? = some v
theorem rsE_keep {vs : List Value} {N : Nat} {f : Nat → Int} {w1 : World} {q : Nat} {v : Value} {W W' : World} (hb : Below W.heap.size W W') (h : rsE vs N f w1 q v W) : rsE vs N f w1 q v W' := by
  unfold rsE at h ⊢
  split at h
  · exact h
  · obtain ⟨b, c, cs, h1, h2, h3, h4⟩ := h; exact ⟨b, c, cs, h1, h2, h3.below hb (fun _ => h4.lt), h4.below hb h4.lt⟩
  · obtain ⟨T, h1, h2, h3⟩ := h; exact ⟨T, h1, h2, h3.below hb h3.lt⟩
  · obtain ⟨b, c, cs, T, h1, h2, h3, h4, h5, h6⟩ := h; exact ⟨b, c, cs, T, h1, h2, h3.below hb (fun _ => h4.lt), h4.below hb h4.lt, h5, h6.below hb h6.lt⟩
  · exact h
theorem rsE_put {vs : List Value} {N : Nat} {f : Nat → Int} {w1 : World} {q : Nat} {v : Value} {W : World} (h4 : q ≠ 4) (h7 : q ≠ 7) (h10 : q ≠ 10) (h11 : q ≠ 11) (h : vs[q]? = some v) : rsE vs N f w1 q v W := by
  unfold rsE
  split <;> first | contradiction | exact h
theorem rsE_get {vs : List Value} {N : Nat} {f : Nat → Int} {w1 : World} {q : Nat} {v u : Value} {W : World} (h : rsE vs N f w1 q v W) (h4 : q ≠ 4) (h7 : q ≠ 7) (h10 : q ≠ 10) (h11 : q ≠ 11) (hu : vs[q]? = some u) : v = u := by
  unfold rsE at h
  split at h <;> first | contradiction | (rw [hu] at h; exact (Option.some.inj h).symm)
theorem rsE_4 {vs : List Value} {N : Nat} {f : Nat → Int} {w1 : World} {v : Value} {W : World} : rsE vs N f w1 4 v W ↔ ∃ g, v = .slice (some ⟨g, 0, none⟩) 0 0 := Iff.rfl
theorem rsE_7 {vs : List Value} {N : Nat} {f : Nat → Int} {w1 : World} {v : Value} {W : World} : rsE vs N f w1 7 v W ↔ ∃ b c cs, v = .slice (some ⟨b, 0, none⟩) N c ∧ w1.heap.size ≤ b ∧ Ints (some ⟨b, 0, none⟩) N b 0 f W ∧ Blk W b cs 3 := Iff.rfl
theorem rsE_10 {vs : List Value} {N : Nat} {f : Nat → Int} {w1 : World} {v : Value} {W : World} : rsE vs N f w1 10 v W ↔ ∃ T, v = .slice (some ⟨T, 0, none⟩) N N ∧ w1.heap.size ≤ T ∧ Blk W T (madeCells #[.slice none 0 0] N) 32 := Iff.rfl
theorem rsE_11 {vs : List Value} {N : Nat} {f : Nat → Int} {w1 : World} {v : Value} {W : World} : rsE vs N f w1 11 v W ↔ ∃ b c cs T, v = .agg #[.slice (some ⟨b, 0, none⟩) N c, .slice (some ⟨T, 0, none⟩) N N] ∧ w1.heap.size ≤ b ∧ Ints (some ⟨b, 0, none⟩) N b 0 f W ∧ Blk W b cs 3 ∧ w1.heap.size ≤ T ∧ Blk W T (madeCells #[.slice none 0 0] N) 32 := Iff.rfl

set_option maxHeartbeats 16000000 in
theorem stepOf_restart (n : NetM) (x : EngM) (v : EvM) (N : Nat) (w : World) (h : n.In w.heap.size w) (hx : x.In w.heap.size w) (hv : v.In w.heap.size w) (hN : n.nodes = N) (hR : x.Right n.net N) (_hcap : x.bag.bn ≤ x.bag.bc) (k : Nat) (hk : v.loc = (k : Int)) (hkd : v.kind = 7) (hkN : k < N) :
    Calls Tryz.prog 10 #[n.val, x.val, v.val] w fun r w' => StepRef n.net x v.ev w r w' := by
  obtain ⟨hN0, hN6, hNN, hnn⟩ := nodes_six hR.check hN
  have hnn' : n.net.nodes = n.nodes := rfl
  have hlen : x.eng.bag.length = x.bag.bn := by show ((List.range x.bag.bn).map x.bag.M).length = _; simp
  have hbn := hR.bn
  have Herr : Hid (x.eng.stepErr n.net v.ev = n.net.row v.rl v.R) := hide (Eng.err_restart (n := n.net) (e := x.eng) (v := v.ev) hkd (show 0 ≤ v.loc by omega) (show v.loc < n.net.nodes by omega))
  have Hstep : Hid (x.eng.step n.net v.ev = x.eng.restart k v.R) := hide (by rw [Eng.does_restart (v := v.ev) hkd]; show x.eng.restart v.loc.toNat v.R = _; rw [hk]; rfl)
  obtain ⟨i2, hi2, hx0, hx1, hx2⟩ := info_parts Tryz.infoInts
  have Hmk : Hid (∀ u : World, (Instr.makeSlice 22 (.int .i64 (N : Int)) (.int .i64 (N : Int))).run Tryz.prog u = .ok (.slice (some ⟨u.heap.size, 0, none⟩) N N) (u.alloc (.cells (madeCells #[.slice none 0 0] N) 32))) := hide (fun u => by
    have h := run_make (P := Tryz.prog) u 22 32 i2 (.slice none 0 0) Tryz.underlying22 hi2 hx0 .i64 .i64 (N : Int) (N : Int) (by omega) (Int.le_refl _) (by rw [hx2]; omega) (by omega)
    simpa [hx1, Value.cells] using h)
  have HCp := hide (fun W (hb : Below w.heap.size w W) => refCopied_any x N W (hx.grown hb) hR.gn hN0 hN6 hR.bn hR.rl hR.tl hR.ll)
  have hs2 : 2 ≤ n.a.size := (Net.good_of_check hR.check).law.good.lo
  have hs24 : n.a.size ≤ 24 := (Net.good_of_check hR.check).law.good.hi
  have HRw := hide (fun a l c b o f (W : World) hi hb => rowOf_any n a l c b o f W hi hb hs2 hs24)
  have hncE : n.cells = #[.int .i64 n.a.size, .slice n.a.B.ga n.a.B.t.len n.a.B.cap, .slice n.a.E.ga n.a.E.t.len n.a.E.cap, .int .i64 N, .slice n.la n.ln n.lc] := by simp only [NetM.cells, Mat.val, hN]
  simp only [EngM.val, EngM.cells, NetM.val, hncE] at HCp HRw
  clear hncE
  obtain ⟨W0, hW0⟩ : ∃ W0, W0 = (((w.alloc (.cells n.cells 27)).alloc (.cells x.cells 31)).alloc (.cells v.cells 34)).alloc (.cells #[.slice none 0 0, .slice none 0 0] 31) := ⟨_, rfl⟩
  have hs0 : SB w n x v W0 := by rw [hW0]; exact SB.start w n x v
  have hz0 : W0.heap.size = w.heap.size + 4 := by rw [hW0]; simp
  have hnc : n.cells = #[.int .i64 n.a.size, .slice n.a.B.ga n.a.B.t.len n.a.B.cap, .slice n.a.E.ga n.a.E.t.len n.a.E.cap, .int .i64 N, .slice n.la n.ln n.lc] := by simp only [NetM.cells, Mat.val, hN]
  have hvc : v.cells = #[.int .i64 7, .int .i64 (k : Int), .int .i64 v.b, .int .i64 v.c, .slice v.ra v.rl v.rc] := by rw [← hkd, ← hk]; rfl
  have hxc : x.cells = #[.slice x.rs.ga x.rs.gn x.rs.gc, .slice x.bag.ba x.bag.bn x.bag.bc] := rfl
  have H := hide h
  have Hx := hide hx
  have Hv := hide hv
  have HR := hide hR
  have Hs0 := hide hs0
  have Hz0 := hide hz0
  have Hnc := hide hnc
  have Hvc := hide hvc
  have Hxc := hide hxc
  have HN := hide hN
  have Hlen := hide hlen
  have Hnn := hide hnn
  have HNN := hide hNN
  have Hkd := hide hkd
  have Hk := hide hk
  have HIs := hide (fun (i : Int) (W : World) => isNode_any n i W (by omega) (by omega))
  simp only [NetM.val, hnc, hN] at HIs
  rw [hnc, hvc, hxc] at hW0
  simp only [NetM.val, EngM.val, EvM.val, hnc, hvc, hxc]
  have HW0 := hide hW0
  have v0 := Hs0.out.bv.cell 0
  have v1 := Hs0.out.bv.cell 1
  have v2 := Hs0.out.bv.cell 2
  have v3 := Hs0.out.bv.cell 3
  have v4 := Hs0.out.bv.cell 4
  rw [Hvc.out] at v0 v1 v2 v3 v4
  simp at v0 v1 v2 v3 v4
  have n0 := Hs0.out.bn.cell 0
  have n1 := Hs0.out.bn.cell 1
  have n2 := Hs0.out.bn.cell 2
  have n3 := Hs0.out.bn.cell 3
  have n4 := Hs0.out.bn.cell 4
  rw [Hnc.out] at n0 n1 n2 n3 n4
  simp at n0 n1 n2 n3 n4
  have x0 := Hs0.out.bx.cell 0
  have x1 := Hs0.out.bx.cell 1
  rw [Hxc.out] at x0 x1
  simp at x0 x1
  clear h hx hv hR hs0 hz0 hnc hvc hxc hN hW0 hlen hnn hNN hkd hnn' hk hi2 hx0 hx1 hx2
  go_enter Tryz.func10, Tryz.ntmps10
  go_wp2_with fail
  rw [← HW0.out]
  go_at_call 24
  refine (between_any _ _ _ _).mono ?_
  rintro e w1 ⟨rfl, hw1⟩
  rw [hw1]
  clear hw1
  have hb1 : (decide ((1 : Int) ≤ 7) && decide ((7 : Int) ≤ 7)) = true := by decide
  rw [hb1]
  clear hb1
  go_wp2_with fail
  go_at_call 24
  refine (between_any _ _ _ _).mono ?_
  rintro e w1 ⟨rfl, hw1⟩
  rw [hw1]
  clear hw1
  have hb2 : (decide ((2 : Int) ≤ 7) && decide ((7 : Int) ≤ 5)) = false := by decide
  rw [hb2]
  clear hb2
  go_wp2_with fail
  go_at_call 25
  refine (HIs.out _ _).mono ?_
  rintro e W1 ⟨rfl, hW1⟩
  have Hb01 : Hid (Below W0.heap.size W0 W1) := hide (by rw [hW1]; exact (Below.refl _ _).alloc (Nat.le_refl _) _)
  have Hs1 := hide (Hs0.out.keep Hb01.out)
  have Hz1 : Hid (w.heap.size + 4 ≤ W1.heap.size) := hide (by have := Hb01.out.size; have := Hz0.out; omega)
  clear hW1  v0 v1 v2 v3 v4 n0 n1 n2 n3 n4 x0 x1
  have v0 := Hs1.out.bv.cell 0
  have v1 := Hs1.out.bv.cell 1
  have v2 := Hs1.out.bv.cell 2
  have v3 := Hs1.out.bv.cell 3
  have v4 := Hs1.out.bv.cell 4
  rw [Hvc.out] at v0 v1 v2 v3 v4
  simp at v0 v1 v2 v3 v4
  have n0 := Hs1.out.bn.cell 0
  have n1 := Hs1.out.bn.cell 1
  have n2 := Hs1.out.bn.cell 2
  have n3 := Hs1.out.bn.cell 3
  have n4 := Hs1.out.bn.cell 4
  rw [Hnc.out] at n0 n1 n2 n3 n4
  simp at n0 n1 n2 n3 n4
  have x0 := Hs1.out.bx.cell 0
  have x1 := Hs1.out.bx.cell 1
  rw [Hxc.out] at x0 x1
  simp at x0 x1
  have hb3 : (decide (0 ≤ (k : Int)) && decide ((k : Int) ≤ (N : Int) - 1)) = true := by simp; omega
  rw [hb3]
  clear hb3
  have HC := hide (HRw.out v.ra v.rl v.rc v.rb v.ro v.R W1 (Hv.out.below Hs1.out.below (Nat.le_refl _)).ints (fun h0 => Nat.lt_of_lt_of_le (Hv.out.lt h0) Hs1.out.below.size))
  go_wp2_with fail
  go_at_call 26
  refine HC.out.mono ?_
  rintro r W2 ⟨rfl, hb12⟩
  have Hs2 := hide (Hs1.out.keep hb12)
  have Hz2 : Hid (w.heap.size + 4 ≤ W2.heap.size) := hide (by have := hb12.size; have := Hz1.out; omega)
  clear hb12 HC  v0 v1 v2 v3 v4 n0 n1 n2 n3 n4 x0 x1
  have v0 := Hs2.out.bv.cell 0
  have v1 := Hs2.out.bv.cell 1
  have v2 := Hs2.out.bv.cell 2
  have v3 := Hs2.out.bv.cell 3
  have v4 := Hs2.out.bv.cell 4
  rw [Hvc.out] at v0 v1 v2 v3 v4
  simp at v0 v1 v2 v3 v4
  have n0 := Hs2.out.bn.cell 0
  have n1 := Hs2.out.bn.cell 1
  have n2 := Hs2.out.bn.cell 2
  have n3 := Hs2.out.bn.cell 3
  have n4 := Hs2.out.bn.cell 4
  rw [Hnc.out] at n0 n1 n2 n3 n4
  simp at n0 n1 n2 n3 n4
  have x0 := Hs2.out.bx.cell 0
  have x1 := Hs2.out.bx.cell 1
  rw [Hxc.out] at x0 x1
  simp at x0 x1
  by_cases k4 : n.net.row v.rl v.R = 0
  rotate_left
  · have k4' : (n.net.row v.rl v.R == 0) = false := by simpa using k4
    have HF := hide (step_no Hs2.out Herr.out k4)
    have c7 := (Hs2.out.br.set 0 (.slice none 0 0)).set 1 (.slice none 0 0)
    have e0 := c7.cell 0
    have e1 := c7.cell 1
    simp at e0 e1
    have r0 := Hs2.out.br.cell 0
    have r1 := Hs2.out.br.cell 1
    have fr0 := Hs2.out.br.frozen 0
    have fr1 := Hs2.out.br.frozen 1
    simp at r0 r1
    clear c7
    generalize n.net.row v.rl v.R = er at *
    go_wp2
    exact bodyPost_ret (v := .tuple #[.agg #[.slice none 0 0, .slice none 0 0], .int .i64 er]) (by simp [results, Tryz.results10, go_sem, e0, e1]) rfl HF.out
  have Her : Hid (x.eng.stepErr n.net v.ev = 0) := hide (by rw [Herr.out, k4])
  have HvN : Hid (v.rl = N) := hide (by have h1 := (Net.row_zero.1 k4).1; have h2 := Hnn.out; omega)
  rw [k4]
  have HC := hide (HCp.out W2 Hs2.out.below)
  clear k4 HCp
  go_wp2_with fail
  go_at_call 35
  refine HC.out.mono ?_
  rintro r W3 ⟨⟨P0, Bv, y, hL3, rfl⟩, hb3⟩
  obtain ⟨ba, bc, hBv⟩ := own_form hL3.live.bag
  obtain ⟨bl, hbl⟩ : ∃ bl, bl = x.eng.bag.length := ⟨_, rfl⟩
  rw [← hbl] at hBv
  subst hBv
  have Hbl := hide hbl
  obtain ⟨P, hP⟩ : ∃ P, P = W3.heap.size := ⟨_, rfl⟩
  obtain ⟨W4, hW4⟩ : ∃ W4, W4 = W3.alloc (.cells #[.slice (some ⟨y.G, 0, none⟩) N y.gc, .slice ba bl bc] 31) := ⟨_, rfl⟩
  have hbab : Below W3.heap.size W3 W4 := by rw [hW4]; exact (Below.refl _ W3).alloc (Nat.le_refl _) _
  have hbib := hb3.trans (hbab.mono hb3.size)
  have hL4 := hL3.rebox
  rw [← hW4, ← hP] at hL4
  have HL4 := hide hL4.live
  have Hs4 := hide (Hs2.out.keep hbib)
  have Hb4 := hide hbib
  have HW4 := hide hW4
  have HP := hide hP
  clear hL3 hb3 hbab hbib hL4 hW4 hP HC hbl  v0 v1 v2 v3 v4 n0 n1 n2 n3 n4 x0 x1
  have v0 := Hs4.out.bv.cell 0
  have v1 := Hs4.out.bv.cell 1
  have v2 := Hs4.out.bv.cell 2
  have v3 := Hs4.out.bv.cell 3
  have v4 := Hs4.out.bv.cell 4
  rw [Hvc.out] at v0 v1 v2 v3 v4
  simp at v0 v1 v2 v3 v4
  have n0 := Hs4.out.bn.cell 0
  have n1 := Hs4.out.bn.cell 1
  have n2 := Hs4.out.bn.cell 2
  have n3 := Hs4.out.bn.cell 3
  have n4 := Hs4.out.bn.cell 4
  rw [Hnc.out] at n0 n1 n2 n3 n4
  simp at n0 n1 n2 n3 n4
  rw [HW4.out] at v0 v1 v2 v3 v4 n0 n1 n2 n3 n4
  go_wp2_with fail
  rw [← HW4.out, ← HP.out]
  have Hv4 := hide (Hv.out.below Hs4.out.below (Nat.le_refl _))
  have Hvb : Hid (v.rb < w.heap.size) := hide (Hv.out.lt (by have := HvN.out; omega))
  have Hvc2 := Hvc
  rw [HvN.out] at Hvc2
  have HkN := hide hkN
  have hki : (k : Int) < (N : Int) := by omega
  clear v0 v1 v2 v3 v4 n0 n1 n2 n3 n4
  refine wp_region_last 13 _ (fun W => Below W4.heap.size W4 W) (rsE [.pointer (some ⟨P, 0, none⟩), .slice (some ⟨y.G, 0, none⟩) N y.gc, .pointer (some ⟨w.heap.size + 1 + 1, 1, none⟩), .int .i64 (k : Int), undef, .pointer (some ⟨w.heap.size + 1 + 1, 4, none⟩), .slice v.ra N v.rc, undef, .pointer (some ⟨w.heap.size, 3, none⟩), .int .i64 (N : Int), undef, undef, .pointer (some ⟨y.G, k * 2, none⟩)] N v.R W4) (fun _ W => ∃ y', Live W2.heap.size P N (x.eng.restart k v.R) (.slice ba bl bc) y' W ∧ SB w n x v W) (fun _ _ _ => True) (by kernel_rfl) (by kernel_rfl) (by kernel_rfl) (by kernel_rfl) (by kernel_rfl) rfl (show Below W4.heap.size W4 W4.drew from ⟨rfl, rfl, rfl, Nat.le_refl _, fun _ _ => rfl⟩) ⟨?_, ?_, ?_, ?_, ?_, ?_, ?_, ?_, ?_, ?_, ?_, ?_, ?_, trivial⟩ ?_ trivial ?_
  rotate_right
  · intro t W hG _
    simp only [fill, Act.put, List.setIfInBounds_toArray, List.set_cons_zero, List.set_cons_succ]
    obtain ⟨y', hL, hS⟩ := hG
    have HS := hide hS
    have p0 := hL.head.cell 0
    have p1 := hL.head.cell 1
    simp at p0 p1
    have HF := hide (step_fin hL HS.out (by have := Hz2.out; omega) HR.out.check HN.out (by rw [← Hstep.out]; exact HR.out.fit.step (Net.good_of_check HR.out.check) Her.out) Hstep.out.symm Her.out)
    have c7 := (HS.out.br.set 0 (.slice (some ⟨y'.G, 0, none⟩) N y'.gc)).set 1 (.slice ba bl bc)
    have e0 := c7.cell 0
    have e1 := c7.cell 1
    simp at e0 e1
    have r0 := HS.out.br.cell 0
    have r1 := HS.out.br.cell 1
    have fr0 := HS.out.br.frozen 0
    have fr1 := HS.out.br.frozen 1
    simp at r0 r1
    clear c7 hL hS
    go_wp2
    exact bodyPost_ret (v := .tuple #[.agg #[.slice (some ⟨y'.G, 0, none⟩) N y'.gc, .slice ba bl bc], .int .i64 0]) (by simp [results, Tryz.results10, go_sem, e0, e1]) rfl HF.out
  rotate_right
  · intro t W hG hE _ K hK
    have e12 := rsE_get (hE 12 (by omega)) (by decide) (by decide) (by decide) (by decide) rfl
    have h11 := rsE_11.1 (hE 11 (by omega))
    simp only [fill, Act.put, List.setIfInBounds_toArray, List.set_cons_zero, List.set_cons_succ, e12] at hK ⊢
    rw [if_pos (by rfl)]
    obtain ⟨b, c, cs, T, e11, hb1, hI, hbb, hT1, hT⟩ := h11
    have hl1 := HL4.out
    have hlW := hl1.below hG
    have hnew : ∀ q, W4.heap.size ≤ q → q < W.heap.size → y.Off P N (.slice ba bl bc) W q := fun q h1 h2 => ⟨by have := hl1.head.lt; omega, by have := hl1.rtrs.lt; omega, fun k hk => by have := (hl1.tolds k hk).lt; omega, fun hv => by have := (hl1.bag.lt _ hv).2; omega, h2, by have := hl1.ylo; have := hl1.head.lt; omega⟩
    have hbT : b ≠ T := fun e => by subst e; have h1 := hbb.symm.trans hT; simp at h1
    have hset := hlW.setRouter (c := c) (tc := N) HkN.out v.R (hnew b hb1 hbb.lt) (fun j hj => by have := hI.cell j hj; simpa using this) hT (fun k hk => made_nil hk) (hnew T hT1 hT.lt) hbT (by have := Hb4.out.size; omega) (fun r hr => by have := (hl1.routes r hr).1.lt; omega) (fun r k hr hk ht => by have := (hl1.rows r hr k hk ht).2.1.lt; omega)
    have c1 := hlW.rtrs.cell (k * 2)
    rw [hlW.r0 k HkN.out] at c1
    have cf := hlW.rtrs.frozen (k * 2)
    have c2 := hlW.rtrs.cell (k * 2 + 1)
    rw [hlW.r1 k HkN.out] at c2
    have cg := hlW.rtrs.frozen (k * 2 + 1)
    have hSw : SB w n x v ((W.setCell ⟨y.G, k * 2, none⟩ (.slice (some ⟨b, 0, none⟩) N c)).setCell ⟨y.G, k * 2 + 1, none⟩ (.slice (some ⟨T, 0, none⟩) N N)) := ((Hs4.out.keep hG).set (by have := hl1.lg; have := Hz2.out; omega) _ _).set (by have := hl1.lg; have := Hz2.out; omega) _ _
    obtain ⟨y', hy'⟩ := hset
    have HN' := hide (And.intro hy' hSw)
    simp only [e11] at hK ⊢
    clear hy' hSw hnew hT hbb hbT e11 e12 hE hI hl1 hlW
    go_simp
    exact hK undef _ ⟨y', HN'.out⟩
  all_goals intro t W hG hp ht K hK
  all_goals clear ht
  all_goals simp only [fill, Act.put, List.setIfInBounds_toArray, List.set_cons_zero, List.set_cons_succ] at hK ⊢
  · rw [if_pos (by rfl)]
    go_simp
    exact hK _ _ hG (rsE_put (by decide) (by decide) (by decide) (by decide) rfl) (fun _ _ _ h => h)
  · have e0 := rsE_get (hp 0 (by decide)) (by decide) (by decide) (by decide) (by decide) rfl
    have cx := (HL4.out.below hG).head.cell 0
    simp at cx
    simp only [e0] at hK ⊢
    rw [if_pos (by rfl)]
    go_simp
    exact hK _ _ hG (rsE_put (by decide) (by decide) (by decide) (by decide) rfl) (fun _ _ _ h => h)
  · rw [if_pos (by rfl)]
    go_simp
    exact hK _ _ hG (rsE_put (by decide) (by decide) (by decide) (by decide) rfl) (fun _ _ _ h => h)
  · have e2 := rsE_get (hp 2 (by decide)) (by decide) (by decide) (by decide) (by decide) rfl
    have cx := (Hs4.out.keep hG).bv.cell 1
    rw [Hvc2.out] at cx
    simp at cx
    simp only [e2] at hK ⊢
    rw [if_pos (by rfl)]
    go_simp
    exact hK _ _ hG (rsE_put (by decide) (by decide) (by decide) (by decide) rfl) (fun _ _ _ h => h)
  · rw [if_pos (by rfl)]
    go_simp
    exact hK _ _ (hG.alloc hG.size _) (rsE_4.2 ⟨_, rfl⟩) (fun _ _ _ h => rsE_keep ((Below.refl _ W).alloc (Nat.le_refl _) _) h)
  · rw [if_pos (by rfl)]
    go_simp
    exact hK _ _ hG (rsE_put (by decide) (by decide) (by decide) (by decide) rfl) (fun _ _ _ h => h)
  · have e5 := rsE_get (hp 5 (by decide)) (by decide) (by decide) (by decide) (by decide) rfl
    have cx := (Hs4.out.keep hG).bv.cell 4
    rw [Hvc2.out] at cx
    simp at cx
    simp only [e5] at hK ⊢
    rw [if_pos (by rfl)]
    go_simp
    exact hK _ _ hG (rsE_put (by decide) (by decide) (by decide) (by decide) rfl) (fun _ _ _ h => h)
  · have e6 := rsE_get (hp 6 (by decide)) (by decide) (by decide) (by decide) (by decide) rfl
    obtain ⟨g, e4⟩ := rsE_4.1 (hp 4 (by decide))
    simp only [e4] at hK ⊢
    simp only [e6] at hK ⊢
    rw [if_pos (by rfl)]
    have hin := (Hv4.out.below hG Hs4.out.below.size).ints
    rw [HvN.out] at hin
    obtain ⟨a2, c2, b2, W9, hrun, hI2, hb2, hB2⟩ := append_copy W g v.ra N v.rc v.rb v.ro v.R hin (by omega) 32
    obtain ⟨⟨cs2, hk2⟩, hlo2⟩ := hb2 hN0
    obtain rfl := hI2.addr hN0
    refine wp_append_run (by rfl) _ _ 32 (by rfl) _ _ (by rfl) (by rfl) _ W9 hrun ?_
    exact hK _ W9 (hG.trans (hB2.mono hG.size)) (rsE_7.2 ⟨b2, c2, cs2, rfl, Nat.le_trans hG.size hlo2, hI2, hk2⟩) (fun _ _ _ h => rsE_keep hB2 h)
  · rw [if_pos (by rfl)]
    go_simp
    exact hK _ _ hG (rsE_put (by decide) (by decide) (by decide) (by decide) rfl) (fun _ _ _ h => h)
  · have e8 := rsE_get (hp 8 (by decide)) (by decide) (by decide) (by decide) (by decide) rfl
    have cx := (Hs4.out.keep hG).bn.cell 3
    rw [Hnc.out] at cx
    simp at cx
    simp only [e8] at hK ⊢
    rw [if_pos (by rfl)]
    go_simp
    exact hK _ _ hG (rsE_put (by decide) (by decide) (by decide) (by decide) rfl) (fun _ _ _ h => h)
  · have e9 := rsE_get (hp 9 (by decide)) (by decide) (by decide) (by decide) (by decide) rfl
    simp only [e9] at hK ⊢
    rw [if_pos (by rfl)]
    have hmk := Hmk.out W
    go_simp
    exact hK _ _ (hG.alloc hG.size _) (rsE_10.2 ⟨W.heap.size, rfl, hG.size, Blk.new W _ _⟩) (fun _ _ _ h => rsE_keep ((Below.refl _ W).alloc (Nat.le_refl _) _) h)
  · obtain ⟨b, c, cs, e7, g1, g2, g3⟩ := rsE_7.1 (hp 7 (by decide))
    obtain ⟨T, e10, g4, g5⟩ := rsE_10.1 (hp 10 (by decide))
    simp only [e7, e10] at hK ⊢
    rw [if_pos (by rfl)]
    go_simp
    exact hK _ _ hG (rsE_11.2 ⟨b, c, cs, T, rfl, g1, g2, g3, g4, g5⟩) (fun _ _ _ h => h)
  · have e1 := rsE_get (hp 1 (by decide)) (by decide) (by decide) (by decide) (by decide) rfl
    have e3 := rsE_get (hp 3 (by decide)) (by decide) (by decide) (by decide) (by decide) rfl
    simp only [e1, e3] at hK ⊢
    rw [if_pos (by rfl)]
    go_simp
    exact hK _ _ hG (rsE_put (by decide) (by decide) (by decide) (by decide) rfl) (fun _ _ _ h => h)

end Go.Proofs.YtjhkadffaephmabGreat

/-
  signpostref.StepOf.
-/
namespace Go.Proofs.YtjhkadffaephmabGreat

theorem stepOf_any (n : NetM) (x : EngM) (v : EvM) (w : World) (h : n.In w.heap.size w) (hx : x.In w.heap.size w) (hv : v.In w.heap.size w) (hR : x.err n.net = 0) (hcap : x.bag.bn ≤ x.bag.bc) :
    Calls Tryz.prog 10 #[n.val, x.val, v.val] w fun r w' => StepRef n.net x v.ev w r w' := by
  have hck : n.net.check = 0 := by
    unfold EngM.err at hR
    split at hR
    · next h1 => exact absurd hR h1
    · next h1 => omega
  obtain ⟨N, hN⟩ : ∃ N : Nat, n.nodes = N := ⟨n.nodes.toNat, by have := (Net.good_of_check hck).lo; have : n.net.nodes = n.nodes := rfl; omega⟩
  have hr : x.Right n.net N := EngM.right hR hN
  by_cases h7 : v.kind < 1 ∨ 7 < v.kind
  · exact stepOf_kind n x v N w h hx hv hN hr hcap h7
  by_cases h25 : 2 ≤ v.kind ∧ v.kind ≤ 5
  · by_cases hp : v.loc < 0 ∨ (x.bag.bn : Int) ≤ v.loc
    · exact stepOf_place n x v N w h hx hv hN hr hcap h25.1 h25.2 hp
    obtain ⟨k, hk⟩ : ∃ k : Nat, v.loc = k := ⟨v.loc.toNat, by omega⟩
    have hkb : k < x.bag.bn := by omega
    rcases (show v.kind = 2 ∨ v.kind = 3 ∨ v.kind = 4 ∨ v.kind = 5 by omega) with e | e | e | e
    · exact stepOf_deliver n x v N w h hx hv hN hr hcap k hk e hkb
    · exact stepOf_twice n x v N w h hx hv hN hr hcap k hk e hkb
    · exact stepOf_lose n x v N w h hx hv hN hr hcap k hk e hkb
    · by_cases hb : (v.b < 0 ∨ ((x.bag.M k).b.length : Int) ≤ v.b) ∨ (v.c < 1 ∨ 255 < v.c)
      · exact stepOf_spoilNo n x v N w h hx hv hN hr hcap k hk e hkb hb
      · obtain ⟨pl, hpl⟩ : ∃ pl : Nat, v.b = pl := ⟨v.b.toNat, by omega⟩
        obtain ⟨cv, hcv⟩ : ∃ cv : Nat, v.c = cv := ⟨v.c.toNat, by omega⟩
        exact stepOf_spoil n x v N w h hx hv hN hr hcap k hk e hkb pl cv hpl hcv (by omega) (by omega) (by omega)
  · by_cases hp : v.loc < 0 ∨ (N : Int) ≤ v.loc
    · exact stepOf_node n x v N w h hx hv hN hr hcap (by omega) hp
    obtain ⟨k, hk⟩ : ∃ k : Nat, v.loc = k := ⟨v.loc.toNat, by omega⟩
    have hkN : k < N := by omega
    rcases (show v.kind = 1 ∨ v.kind = 6 ∨ v.kind = 7 by omega) with e | e | e
    · exact stepOf_tick n x v N w h hx hv hN hr hcap k hk e hkN
    · exact stepOf_expire n x v N w h hx hv hN hr hcap k hk e hkN
    · exact stepOf_restart n x v N w h hx hv hN hr hcap k hk e hkN

end Go.Proofs.YtjhkadffaephmabGreat

/-
  signpostlaw.engineIs; Play and Calm, as one answer each.
-/
namespace Go.Proofs.YtjhkadffaephmabGreat
set_option maxRecDepth 100000
open Go.RowKit

set_option maxHeartbeats 2000000 in
theorem engineIs_same (x z : EngM) (w : World) (hx : x.In w.heap.size w) (hz : z.In w.heap.size w) (hs : x.Same z) :
    Calls Tryz.prog 13 #[x.val, .int .i64 0, .int .i64 0, z.val] w fun r w' => r = .returned (.bool true) ∧ Below w.heap.size w w' := by
  obtain ⟨W1, hW1⟩ : ∃ W1, W1 = (w.alloc (.cells x.cells 31)).alloc (.cells z.cells 31) := ⟨_, rfl⟩
  have hB : Below w.heap.size w W1 := by rw [hW1]; exact ((Below.refl _ w).alloc (Nat.le_refl _) _).alloc (by simp) _
  have HC := hide (sameEngine_yes x z W1 (hx.grown hB) (hz.grown hB) hs)
  have HB := hide hB
  simp only [EngM.val, EngM.cells] at HC hW1 ⊢
  rw [hW1] at HC
  have HW1 := hide hW1
  clear hx hz hs hB hW1
  go_enter Tryz.func13, Tryz.ntmps13
  go_wp2_with fail
  go_at_call 39
  refine HC.out.mono ?_
  rw [← HW1.out]
  rintro r W2 ⟨rfl, hb⟩
  have HF := hide (HB.out.trans (hb.mono HB.out.size))
  clear hb HC
  go_wp2
  go_ret
  exact ⟨rfl, HF.out⟩

set_option maxHeartbeats 2000000 in
theorem engineIs_none (e : Int) (z : EngM) (w : World) (he : e ≠ 0) :
    Calls Tryz.prog 13 #[zeroEng, .int .i64 e, .int .i64 e, z.val] w fun r w' => r = .returned (.bool true) ∧ Below w.heap.size w w' := by
  obtain ⟨W1, hW1⟩ : ∃ W1, W1 = (w.alloc (.cells #[.slice none 0 0, .slice none 0 0] 31)).alloc (.cells #[.slice none 0 0, .slice none 0 0] 31) := ⟨_, rfl⟩
  have hB : Below w.heap.size w W1 := by rw [hW1]; exact ((Below.refl _ w).alloc (Nat.le_refl _) _).alloc (by simp) _
  have HC := hide (sameEngine_yes zeroM zeroM W1 (zeroM_in _ _) (zeroM_in _ _) ⟨rfl, fun _ h => absurd h (Nat.not_lt_zero _), fun _ h => absurd h (Nat.not_lt_zero _), rfl, fun _ h => absurd h (Nat.not_lt_zero _)⟩)
  have HB := hide hB
  have hzv : zeroM.val = .agg #[.slice none 0 0, .slice none 0 0] := rfl
  rw [hzv] at HC
  rw [hW1] at HC
  have HW1 := hide hW1
  have he' : (e == 0) = false := by simpa using he
  show Calls Tryz.prog 13 #[.agg #[.slice none 0 0, .slice none 0 0], .int .i64 e, .int .i64 e, .agg #[.slice z.rs.ga z.rs.gn z.rs.gc, .slice z.bag.ba z.bag.bn z.bag.bc]] w _
  clear hB hW1 hzv
  go_enter Tryz.func13, Tryz.ntmps13
  go_wp2_with fail
  go_at_call 39
  refine HC.out.mono ?_
  rw [← HW1.out]
  rintro r W2 ⟨rfl, hb⟩
  have HF := hide (HB.out.trans (hb.mono HB.out.size))
  clear hb HC
  go_wp2
  go_ret
  exact ⟨rfl, HF.out⟩

end Go.Proofs.YtjhkadffaephmabGreat

/-
  signpostlaw.two, netBegun.
-/
namespace Go.Proofs.YtjhkadffaephmabGreat
set_option maxRecDepth 100000
open Go.RowKit

theorem Net.begin_state {n : Net} (hc : n.check = 0) : n.State n.begin := fun i j _ _ => by
  have lo := (Net.good_of_check hc).law.good.lo
  unfold Net.begin
  split <;> omega

/-- The net of two nodes. -/
def twoNet : Net := ⟨⟨3, hopsB, hopsE⟩, 2, 2, fun i => i, fun i => 1 - i, fun _ => 0⟩
def twoM (b l : Nat) : NetM := ⟨hopsM b, 2, some ⟨l, 0, none⟩, 2, 2, l, 0, fun i => i, fun i => 1 - i, fun _ => 0⟩
theorem two_check : twoNet.check = 0 := by decide +kernel
set_option maxHeartbeats 2000000 in
theorem two_any (w : World) :
    Calls Tryz.prog 37 #[] w fun e w' => (∃ n : NetM, e = .returned n.val ∧ n.net = twoNet ∧ n.In w'.heap.size w') ∧ Below w.heap.size w w' := by
  have hB0 : Below w.heap.size w (w.alloc (.cells #[.int .i64 0, .slice none 0 0, .slice none 0 0, .int .i64 0, .slice none 0 0] 27)) := (Below.refl _ w).alloc (Nat.le_refl _) _
  have b0 := Blk.new w #[.int .i64 0, .slice none 0 0, .slice none 0 0, .int .i64 0, .slice none 0 0] 27
  go_enter Tryz.func37, Tryz.ntmps37
  go_wp2_with fail
  go_at_call 67
  refine (hops_any _).mono ?_
  rintro e w1 ⟨rfl, hI, hb1⟩
  have hs0 : (w.alloc (.cells #[.int .i64 0, .slice none 0 0, .slice none 0 0, .int .i64 0, .slice none 0 0] 27)).heap.size = w.heap.size + 1 := by simp
  rw [hs0] at hI hb1 ⊢
  have hB1 := hB0.trans (hb1.mono (by omega))
  have b1 := b0.below hb1 (by omega)
  have hs1 := hb1.size
  have bL := Blk.new w1 #[.int .i64 0, .int .i64 1, .int .i64 0, .int .i64 1, .int .i64 0, .int .i64 0] 65
  have hB2 := hB1.alloc hB1.size (.cells #[.int .i64 0, .int .i64 1, .int .i64 0, .int .i64 1, .int .i64 0, .int .i64 0] 65)
  have b2 := b1.alloc (.cells #[.int .i64 0, .int .i64 1, .int .i64 0, .int .i64 1, .int .i64 0, .int .i64 0] 65)
  have d0 := b2.cell 0
  have d1 := b2.cell 1
  have d2 := b2.cell 2
  have d3 := b2.cell 3
  have d4 := b2.cell 4
  have fR := b2.frozen
  simp at d0 d1 d2 d3 d4
  have hI2 := (hI.below ((Below.refl _ w1).alloc (Nat.le_refl _) (.cells #[.int .i64 0, .int .i64 1, .int .i64 0, .int .i64 1, .int .i64 0, .int .i64 0] 65)) (Nat.le_refl _))
  simp only [hopsM, AlgM.val, Mat.val, hopsBM, hopsEM, hopsB, hopsE]
  go_wp2
  have b5 := b2.set5 (.int .i64 3) (.slice (some ⟨w.heap.size + 1 + 4, 0, none⟩) 3 3) (.slice (some ⟨w.heap.size + 1 + 6, 0, none⟩) 1 1) (.int .i64 2) (.slice (some ⟨w1.heap.size, 0, none⟩) 2 2)
  have e0 := b5.cell 0
  have e1 := b5.cell 1
  have e2 := b5.cell 2
  have e3 := b5.cell 3
  have e4 := b5.cell 4
  unfold YtjhkadffaephmabGreat.set5 at e0 e1 e2 e3 e4
  simp at e0 e1 e2 e3 e4
  have hfB : (hopsBM (w.heap.size + 1)).From (w.heap.size + 1) := ⟨fun _ => by show w.heap.size + 1 ≤ w.heap.size + 1 + 4; omega, fun r _ _ => by show w.heap.size + 1 ≤ w.heap.size + 1 + 1 + r; omega⟩
  have hfE : (hopsEM (w.heap.size + 1)).From (w.heap.size + 1) := ⟨fun _ => by show w.heap.size + 1 ≤ w.heap.size + 1 + 6; omega, fun r _ _ => by show w.heap.size + 1 ≤ w.heap.size + 1 + 5; omega⟩
  have hl : w.heap.size < w1.heap.size := by omega
  have bL5 := ((((bL.other (show w1.heap.size ≠ w.heap.size by omega) 0 (.int .i64 3)).other (show w1.heap.size ≠ w.heap.size by omega) 1 (.slice (some ⟨w.heap.size + 1 + 4, 0, none⟩) 3 3)).other (show w1.heap.size ≠ w.heap.size by omega) 2 (.slice (some ⟨w.heap.size + 1 + 6, 0, none⟩) 1 1)).other (show w1.heap.size ≠ w.heap.size by omega) 3 (.int .i64 2)).other (show w1.heap.size ≠ w.heap.size by omega) 4 (.slice (some ⟨w1.heap.size, 0, none⟩) 2 2)
  refine bodyPost_ret (v := (twoM (w.heap.size + 1) w1.heap.size).val) (by simp [results, Tryz.results37, go_sem, e0, e1, e2, e3, e4, twoM, NetM.val, NetM.cells, hopsM, Mat.val, hopsBM, hopsEM, hopsB, hopsE]) rfl ⟨⟨twoM (w.heap.size + 1) w1.heap.size, rfl, rfl, ?_⟩, below5 hB2 (Nat.le_refl _) _ _ _ _ _⟩
  refine ⟨⟨?_, ?_⟩, fun _ => rfl, fun _ => by show w1.heap.size < _; simp, ?_, ?_, ?_, by show 2 ≤ maxLen; unfold maxLen; omega⟩
  · refine Mat.In.mono (k := _) (n := w1.heap.size) ?_ (by simp)
    exact ((((hI2.B.other hfB (by omega) _).other hfB (by omega) _).other hfB (by omega) _).other hfB (by omega) _).other hfB (by omega) _
  · refine Mat.In.mono (k := _) (n := w1.heap.size) ?_ (by simp)
    exact ((((hI2.E.other hfE (by omega) _).other hfE (by omega) _).other hfE (by omega) _).other hfE (by omega) _).other hfE (by omega) _
  · intro i hi
    have hi' : i < 2 := hi
    match i, hi' with
    | 0, _ => exact bL5.cell 0
    | 1, _ => exact bL5.cell 3
  · intro i hi
    have hi' : i < 2 := hi
    match i, hi' with
    | 0, _ => exact bL5.cell 1
    | 1, _ => exact bL5.cell 4
  · intro i hi
    have hi' : i < 2 := hi
    match i, hi' with
    | 0, _ => exact bL5.cell 2
    | 1, _ => exact bL5.cell 5

end Go.Proofs.YtjhkadffaephmabGreat

/-
  signpostlaw.NetAlways: the walk.
-/
namespace Go.Proofs.YtjhkadffaephmabGreat
set_option maxRecDepth 100000
open Go.RowKit

/-- No state at all. -/
def nilM : Mat := ⟨none, 0, 0, 0, fun _ => none, fun _ => 0, fun _ => 0, fun _ => 0, ⟨0, fun _ => 0, fun _ _ => 0⟩⟩
theorem nilM_in (k : Nat) (w : World) : nilM.In k w where
  ga := fun h => absurd h (Nat.not_lt_zero _)
  gb := fun h => absurd h (Nat.not_lt_zero _)
  row := fun _ h => absurd h (Nat.not_lt_zero _)
  addr := fun _ h => absurd h (Nat.not_lt_zero _)
  cell := fun _ h => absurd h (Nat.not_lt_zero _)
  len := Nat.zero_le _
  lens := fun _ h => absurd h (Nat.not_lt_zero _)
theorem nilM_from (k : Nat) : nilM.From k := ⟨fun h => absurd h (Nat.not_lt_zero _), fun _ h => absurd h (Nat.not_lt_zero _)⟩

/-- What a call that answers a state and an error answers. -/
structure StateAns (N lo : Nat) (Z : Nat → Nat → Int) (E : Int) (m : Mat) (W : World) : Prop where
  mem : m.In W.heap.size W
  own : m.From lo
  ok : E = 0 → m.t = ⟨N, fun _ => N, Z⟩
  bad : E ≠ 0 → m.t.len = 0

theorem netBegin_any (n : NetM) (w : World) (h : n.In w.heap.size w) :
    Calls Tryz.prog 20 #[n.val] w fun e w' => (∃ m : Mat, e = .returned (.tuple #[m.val, .int .i64 n.net.check]) ∧ StateAns n.net.N w.heap.size n.net.begin n.net.check m w') ∧ Below w.heap.size w w' := by
  by_cases hE : n.net.check = 0
  · refine (netBegin_ok n w h hE).mono ?_
    rintro e w' ⟨⟨m, rfl, hm⟩, hb⟩
    rw [hE]
    exact ⟨⟨m, rfl, hm.2.1, hm.2.2, fun _ => hm.1, fun h => absurd rfl h⟩, hb⟩
  · refine (netBegin_bad n w h hE).mono ?_
    rintro e w' ⟨rfl, hb⟩
    exact ⟨⟨nilM, rfl, nilM_in _ _, nilM_from _, fun h => absurd h hE, fun _ => rfl⟩, hb⟩

end Go.Proofs.YtjhkadffaephmabGreat
