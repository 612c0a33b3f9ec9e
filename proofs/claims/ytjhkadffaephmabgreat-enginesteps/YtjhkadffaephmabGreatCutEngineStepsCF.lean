/-
  Our own texts, bundled: a claim holds few files.
-/
import Derived.Test.YtjhkadffaephmabGreatCutEngineStepsCE
import Derived.Test.YtjhkadffaephmabGreatCutEngineStepsAI
import Derived.Test.YtjhkadffaephmabGreatCutEngineStepsCA
/-
  signpostref.StepOf: a kind or a place that is none.
-/
namespace Go.Proofs.YtjhkadffaephmabGreat
set_option maxRecDepth 100000
open Go.RowKit

set_option maxHeartbeats 16000000 in
theorem stepOf_kind (n : NetM) (x : EngM) (v : EvM) (N : Nat) (w : World) (h : n.In w.heap.size w) (hx : x.In w.heap.size w) (hv : v.In w.heap.size w) (hN : n.nodes = N) (hR : x.Right n.net N) (_hcap : x.bag.bn ≤ x.bag.bc) (hkd : v.kind < 1 ∨ 7 < v.kind) :
    Calls Tryz.prog 10 #[n.val, x.val, v.val] w fun r w' => StepRef n.net x v.ev w r w' := by
  obtain ⟨hN0, hN6, hNN, hnn⟩ := nodes_six hR.check hN
  have hnn' : n.net.nodes = n.nodes := rfl
  have hlen : x.eng.bag.length = x.bag.bn := by show ((List.range x.bag.bn).map x.bag.M).length = _; simp
  have hbn := hR.bn
  have Her : Hid (x.eng.stepErr n.net v.ev = 7) := hide (Eng.err_kind (v := v.ev) hkd)
  obtain ⟨W0, hW0⟩ : ∃ W0, W0 = (((w.alloc (.cells n.cells 27)).alloc (.cells x.cells 31)).alloc (.cells v.cells 34)).alloc (.cells #[.slice none 0 0, .slice none 0 0] 31) := ⟨_, rfl⟩
  have hs0 : SB w n x v W0 := by rw [hW0]; exact SB.start w n x v
  have hz0 : W0.heap.size = w.heap.size + 4 := by rw [hW0]; simp
  have hnc : n.cells = #[.int .i64 n.a.size, .slice n.a.B.ga n.a.B.t.len n.a.B.cap, .slice n.a.E.ga n.a.E.t.len n.a.E.cap, .int .i64 N, .slice n.la n.ln n.lc] := by simp only [NetM.cells, Mat.val, hN]
  have hvc : v.cells = #[.int .i64 v.kind, .int .i64 v.loc, .int .i64 v.b, .int .i64 v.c, .slice v.ra v.rl v.rc] := rfl
  have hxc : x.cells = #[.slice x.rs.ga x.rs.gn x.rs.gc, .slice x.bag.ba x.bag.bn x.bag.bc] := rfl
  have H := hide h
  have Hx := hide hx
  have Hv := hide hv
  have HR := hide hR
  have Hs0 := hide hs0
  have Hz0 := hide hz0
  have Hnc := hide hnc
  have Hvc := hide hvc
  have Hxc := hide hxc
  have HN := hide hN
  have Hlen := hide hlen
  have Hnn := hide hnn
  have HNN := hide hNN
  have HIs := hide (fun (i : Int) (W : World) => isNode_any n i W (by omega) (by omega))
  simp only [NetM.val, hnc, hN] at HIs
  rw [hnc, hvc, hxc] at hW0
  simp only [NetM.val, EngM.val, EvM.val, hnc, hvc, hxc]
  have HW0 := hide hW0
  have v0 := Hs0.out.bv.cell 0
  have v1 := Hs0.out.bv.cell 1
  have v2 := Hs0.out.bv.cell 2
  have v3 := Hs0.out.bv.cell 3
  have v4 := Hs0.out.bv.cell 4
  rw [Hvc.out] at v0 v1 v2 v3 v4
  simp at v0 v1 v2 v3 v4
  have n0 := Hs0.out.bn.cell 0
  have n1 := Hs0.out.bn.cell 1
  have n2 := Hs0.out.bn.cell 2
  have n3 := Hs0.out.bn.cell 3
  have n4 := Hs0.out.bn.cell 4
  rw [Hnc.out] at n0 n1 n2 n3 n4
  simp at n0 n1 n2 n3 n4
  have x0 := Hs0.out.bx.cell 0
  have x1 := Hs0.out.bx.cell 1
  rw [Hxc.out] at x0 x1
  simp at x0 x1
  clear h hx hv hR hs0 hz0 hnc hvc hxc hN hW0 hlen hnn hNN hnn' 
  go_enter Tryz.func10, Tryz.ntmps10
  go_wp2_with fail
  rw [← HW0.out]
  go_at_call 24
  refine (between_any _ _ _ _).mono ?_
  rintro e w1 ⟨rfl, hw1⟩
  rw [hw1]
  clear hw1
  have hb1 : (decide ((1 : Int) ≤ v.kind) && decide (v.kind ≤ 7)) = false := by simp; omega
  rw [hb1]
  clear hb1
  have HF := hide (step_no (er := 7) Hs0.out (Her.out) (by decide))
  have c7 := (Hs0.out.br.set 0 (.slice none 0 0)).set 1 (.slice none 0 0)
  have e0 := c7.cell 0
  have e1 := c7.cell 1
  simp at e0 e1
  have r0 := Hs0.out.br.cell 0
  have r1 := Hs0.out.br.cell 1
  have fr0 := Hs0.out.br.frozen 0
  have fr1 := Hs0.out.br.frozen 1
  simp at r0 r1
  clear c7
  go_wp2
  exact bodyPost_ret (v := .tuple #[.agg #[.slice none 0 0, .slice none 0 0], .int .i64 7]) (by simp [results, Tryz.results10, go_sem, e0, e1]) rfl HF.out

set_option maxHeartbeats 16000000 in
theorem stepOf_place (n : NetM) (x : EngM) (v : EvM) (N : Nat) (w : World) (h : n.In w.heap.size w) (hx : x.In w.heap.size w) (hv : v.In w.heap.size w) (hN : n.nodes = N) (hR : x.Right n.net N) (_hcap : x.bag.bn ≤ x.bag.bc) (h2 : 2 ≤ v.kind) (h5 : v.kind ≤ 5) (hpl : v.loc < 0 ∨ (x.bag.bn : Int) ≤ v.loc) :
    Calls Tryz.prog 10 #[n.val, x.val, v.val] w fun r w' => StepRef n.net x v.ev w r w' := by
  obtain ⟨hN0, hN6, hNN, hnn⟩ := nodes_six hR.check hN
  have hnn' : n.net.nodes = n.nodes := rfl
  have hlen : x.eng.bag.length = x.bag.bn := by show ((List.range x.bag.bn).map x.bag.M).length = _; simp
  have hbn := hR.bn
  have Her : Hid (x.eng.stepErr n.net v.ev = 5) := hide (Eng.err_place (v := v.ev) h2 h5 (by rw [hlen]; exact hpl))
  obtain ⟨W0, hW0⟩ : ∃ W0, W0 = (((w.alloc (.cells n.cells 27)).alloc (.cells x.cells 31)).alloc (.cells v.cells 34)).alloc (.cells #[.slice none 0 0, .slice none 0 0] 31) := ⟨_, rfl⟩
  have hs0 : SB w n x v W0 := by rw [hW0]; exact SB.start w n x v
  have hz0 : W0.heap.size = w.heap.size + 4 := by rw [hW0]; simp
  have hnc : n.cells = #[.int .i64 n.a.size, .slice n.a.B.ga n.a.B.t.len n.a.B.cap, .slice n.a.E.ga n.a.E.t.len n.a.E.cap, .int .i64 N, .slice n.la n.ln n.lc] := by simp only [NetM.cells, Mat.val, hN]
  have hvc : v.cells = #[.int .i64 v.kind, .int .i64 v.loc, .int .i64 v.b, .int .i64 v.c, .slice v.ra v.rl v.rc] := rfl
  have hxc : x.cells = #[.slice x.rs.ga x.rs.gn x.rs.gc, .slice x.bag.ba x.bag.bn x.bag.bc] := rfl
  have H := hide h
  have Hx := hide hx
  have Hv := hide hv
  have HR := hide hR
  have Hs0 := hide hs0
  have Hz0 := hide hz0
  have Hnc := hide hnc
  have Hvc := hide hvc
  have Hxc := hide hxc
  have HN := hide hN
  have Hlen := hide hlen
  have Hnn := hide hnn
  have HNN := hide hNN
  have HIs := hide (fun (i : Int) (W : World) => isNode_any n i W (by omega) (by omega))
  simp only [NetM.val, hnc, hN] at HIs
  rw [hnc, hvc, hxc] at hW0
  simp only [NetM.val, EngM.val, EvM.val, hnc, hvc, hxc]
  have HW0 := hide hW0
  have v0 := Hs0.out.bv.cell 0
  have v1 := Hs0.out.bv.cell 1
  have v2 := Hs0.out.bv.cell 2
  have v3 := Hs0.out.bv.cell 3
  have v4 := Hs0.out.bv.cell 4
  rw [Hvc.out] at v0 v1 v2 v3 v4
  simp at v0 v1 v2 v3 v4
  have n0 := Hs0.out.bn.cell 0
  have n1 := Hs0.out.bn.cell 1
  have n2 := Hs0.out.bn.cell 2
  have n3 := Hs0.out.bn.cell 3
  have n4 := Hs0.out.bn.cell 4
  rw [Hnc.out] at n0 n1 n2 n3 n4
  simp at n0 n1 n2 n3 n4
  have x0 := Hs0.out.bx.cell 0
  have x1 := Hs0.out.bx.cell 1
  rw [Hxc.out] at x0 x1
  simp at x0 x1
  clear h hx hv hR hs0 hz0 hnc hvc hxc hN hW0 hlen hnn hNN hnn' 
  go_enter Tryz.func10, Tryz.ntmps10
  go_wp2_with fail
  rw [← HW0.out]
  go_at_call 24
  refine (between_any _ _ _ _).mono ?_
  rintro e w1 ⟨rfl, hw1⟩
  rw [hw1]
  clear hw1
  have hb1 : (decide ((1 : Int) ≤ v.kind) && decide (v.kind ≤ 7)) = true := by simp; omega
  rw [hb1]
  clear hb1
  go_wp2_with fail
  go_at_call 24
  refine (between_any _ _ _ _).mono ?_
  rintro e w1 ⟨rfl, hw1⟩
  rw [hw1]
  clear hw1
  have hb2 : (decide ((2 : Int) ≤ v.kind) && decide (v.kind ≤ 5)) = true := by simp; omega
  rw [hb2]
  clear hb2
  go_wp2_with fail
  go_at_call 24
  refine (between_any _ _ _ _).mono ?_
  rintro e w1 ⟨rfl, hw1⟩
  rw [hw1]
  clear hw1
  have hb3 : (decide (0 ≤ v.loc) && decide (v.loc ≤ (x.bag.bn : Int) - 1)) = false := by simp; omega
  rw [hb3]
  clear hb3
  have HF := hide (step_no (er := 5) Hs0.out (Her.out) (by decide))
  have c7 := (Hs0.out.br.set 0 (.slice none 0 0)).set 1 (.slice none 0 0)
  have e0 := c7.cell 0
  have e1 := c7.cell 1
  simp at e0 e1
  have r0 := Hs0.out.br.cell 0
  have r1 := Hs0.out.br.cell 1
  have fr0 := Hs0.out.br.frozen 0
  have fr1 := Hs0.out.br.frozen 1
  simp at r0 r1
  clear c7
  go_wp2
  exact bodyPost_ret (v := .tuple #[.agg #[.slice none 0 0, .slice none 0 0], .int .i64 5]) (by simp [results, Tryz.results10, go_sem, e0, e1]) rfl HF.out

set_option maxHeartbeats 16000000 in
theorem stepOf_node (n : NetM) (x : EngM) (v : EvM) (N : Nat) (w : World) (h : n.In w.heap.size w) (hx : x.In w.heap.size w) (hv : v.In w.heap.size w) (hN : n.nodes = N) (hR : x.Right n.net N) (_hcap : x.bag.bn ≤ x.bag.bc) (hkd : v.kind = 1 ∨ v.kind = 6 ∨ v.kind = 7) (hpl : v.loc < 0 ∨ (N : Int) ≤ v.loc) :
    Calls Tryz.prog 10 #[n.val, x.val, v.val] w fun r w' => StepRef n.net x v.ev w r w' := by
  obtain ⟨hN0, hN6, hNN, hnn⟩ := nodes_six hR.check hN
  have hnn' : n.net.nodes = n.nodes := rfl
  have hlen : x.eng.bag.length = x.bag.bn := by show ((List.range x.bag.bn).map x.bag.M).length = _; simp
  have hbn := hR.bn
  have Her : Hid (x.eng.stepErr n.net v.ev = 5) := hide (Eng.err_node (v := v.ev) hkd (by rw [hnn]; exact hpl))
  obtain ⟨W0, hW0⟩ : ∃ W0, W0 = (((w.alloc (.cells n.cells 27)).alloc (.cells x.cells 31)).alloc (.cells v.cells 34)).alloc (.cells #[.slice none 0 0, .slice none 0 0] 31) := ⟨_, rfl⟩
  have hs0 : SB w n x v W0 := by rw [hW0]; exact SB.start w n x v
  have hz0 : W0.heap.size = w.heap.size + 4 := by rw [hW0]; simp
  have hnc : n.cells = #[.int .i64 n.a.size, .slice n.a.B.ga n.a.B.t.len n.a.B.cap, .slice n.a.E.ga n.a.E.t.len n.a.E.cap, .int .i64 N, .slice n.la n.ln n.lc] := by simp only [NetM.cells, Mat.val, hN]
  have hvc : v.cells = #[.int .i64 v.kind, .int .i64 v.loc, .int .i64 v.b, .int .i64 v.c, .slice v.ra v.rl v.rc] := rfl
  have hxc : x.cells = #[.slice x.rs.ga x.rs.gn x.rs.gc, .slice x.bag.ba x.bag.bn x.bag.bc] := rfl
  have H := hide h
  have Hx := hide hx
  have Hv := hide hv
  have HR := hide hR
  have Hs0 := hide hs0
  have Hz0 := hide hz0
  have Hnc := hide hnc
  have Hvc := hide hvc
  have Hxc := hide hxc
  have HN := hide hN
  have Hlen := hide hlen
  have Hnn := hide hnn
  have HNN := hide hNN
  have HIs := hide (fun (i : Int) (W : World) => isNode_any n i W (by omega) (by omega))
  simp only [NetM.val, hnc, hN] at HIs
  rw [hnc, hvc, hxc] at hW0
  simp only [NetM.val, EngM.val, EvM.val, hnc, hvc, hxc]
  have HW0 := hide hW0
  have v0 := Hs0.out.bv.cell 0
  have v1 := Hs0.out.bv.cell 1
  have v2 := Hs0.out.bv.cell 2
  have v3 := Hs0.out.bv.cell 3
  have v4 := Hs0.out.bv.cell 4
  rw [Hvc.out] at v0 v1 v2 v3 v4
  simp at v0 v1 v2 v3 v4
  have n0 := Hs0.out.bn.cell 0
  have n1 := Hs0.out.bn.cell 1
  have n2 := Hs0.out.bn.cell 2
  have n3 := Hs0.out.bn.cell 3
  have n4 := Hs0.out.bn.cell 4
  rw [Hnc.out] at n0 n1 n2 n3 n4
  simp at n0 n1 n2 n3 n4
  have x0 := Hs0.out.bx.cell 0
  have x1 := Hs0.out.bx.cell 1
  rw [Hxc.out] at x0 x1
  simp at x0 x1
  clear h hx hv hR hs0 hz0 hnc hvc hxc hN hW0 hlen hnn hNN hnn' 
  go_enter Tryz.func10, Tryz.ntmps10
  go_wp2_with fail
  rw [← HW0.out]
  go_at_call 24
  refine (between_any _ _ _ _).mono ?_
  rintro e w1 ⟨rfl, hw1⟩
  rw [hw1]
  clear hw1
  have hb1 : (decide ((1 : Int) ≤ v.kind) && decide (v.kind ≤ 7)) = true := by simp; omega
  rw [hb1]
  clear hb1
  go_wp2_with fail
  go_at_call 24
  refine (between_any _ _ _ _).mono ?_
  rintro e w1 ⟨rfl, hw1⟩
  rw [hw1]
  clear hw1
  have hb2 : (decide ((2 : Int) ≤ v.kind) && decide (v.kind ≤ 5)) = false := by simp; omega
  rw [hb2]
  clear hb2
  go_wp2_with fail
  go_at_call 25
  refine (HIs.out _ _).mono ?_
  rintro e W1 ⟨rfl, hW1⟩
  have Hb01 : Hid (Below W0.heap.size W0 W1) := hide (by rw [hW1]; exact (Below.refl _ _).alloc (Nat.le_refl _) _)
  have Hs1 := hide (Hs0.out.keep Hb01.out)
  clear hW1  v0 v1 v2 v3 v4 n0 n1 n2 n3 n4 x0 x1
  have hb3 : (decide (0 ≤ v.loc) && decide (v.loc ≤ (N : Int) - 1)) = false := by simp; omega
  rw [hb3]
  clear hb3
  have HF := hide (step_no (er := 5) Hs1.out (Her.out) (by decide))
  have c7 := (Hs1.out.br.set 0 (.slice none 0 0)).set 1 (.slice none 0 0)
  have e0 := c7.cell 0
  have e1 := c7.cell 1
  simp at e0 e1
  have r0 := Hs1.out.br.cell 0
  have r1 := Hs1.out.br.cell 1
  have fr0 := Hs1.out.br.frozen 0
  have fr1 := Hs1.out.br.frozen 1
  simp at r0 r1
  clear c7
  go_wp2
  exact bodyPost_ret (v := .tuple #[.agg #[.slice none 0 0, .slice none 0 0], .int .i64 5]) (by simp [results, Tryz.results10, go_sem, e0, e1]) rfl HF.out

end Go.Proofs.YtjhkadffaephmabGreat

/-
  signpostref.StepOf: what was told expires.
-/
namespace Go.Proofs.YtjhkadffaephmabGreat
set_option maxRecDepth 100000
open Go.RowKit

/-- What Live's numbers come to, as an engine that is right. -/
theorem Live.right {base P N : Nat} {e : Eng} {Bv : Value} {y : Lay} {W : World} {n : NetM} (h : Live base P N e Bv y W) (hck : n.net.check = 0) (hN : n.nodes = N) (hfit : e.Fit n.net) :
    ∃ m : EngM, m.cells = #[.slice (some ⟨y.G, 0, none⟩) N y.gc, Bv] ∧ m.In W.heap.size W ∧ m.eng = e ∧ m.Right n.net N ∧ m.bag.bn ≤ m.bag.bc := by
  obtain ⟨hN0, hN6, hNN, hnn⟩ := nodes_six hck hN
  obtain ⟨m, hmc, hmin, hme, hm1, hm2, hm3, hm4, hm5, hm6, _⟩ := h.outF hN0 hN6 hfit.many (fun m hm => (hfit.mail m hm).2.2)
  exact ⟨m, hmc, hmin, hme, ⟨hck, hm1, hm2, hm3, fun i hi q hq => by rw [hme]; exact hm4 i hi q hq, by rw [hm5]; exact hfit.many, by rw [hme]; exact hfit⟩, hm6.cap⟩
def Eng.untell (e : Eng) (i k : Nat) : Eng := { e with told := fun a b => if a = i ∧ b = k then false else e.told a b }
theorem Eng.Fit.untell {n : Net} {e : Eng} (h : e.Fit n) (i k : Nat) : (e.untell i k).Fit n :=
  ⟨h.R, fun a b j ha hb hj ht => by
    have ht' : (if a = i ∧ b = k then false else e.told a b) = true := ht
    split at ht'
    · cases ht'
    · exact h.D a b j ha hb hj ht', h.many, h.mail⟩

set_option maxHeartbeats 16000000 in
theorem stepOf_expire (n : NetM) (x : EngM) (v : EvM) (N : Nat) (w : World) (h : n.In w.heap.size w) (hx : x.In w.heap.size w) (hv : v.In w.heap.size w) (hN : n.nodes = N) (hR : x.Right n.net N) (_hcap : x.bag.bn ≤ x.bag.bc) (k : Nat) (hk : v.loc = (k : Int)) (hkd : v.kind = 6) (hkN : k < N) :
    Calls Tryz.prog 10 #[n.val, x.val, v.val] w fun r w' => StepRef n.net x v.ev w r w' := by
  obtain ⟨hN0, hN6, hNN, hnn⟩ := nodes_six hR.check hN
  have hnn' : n.net.nodes = n.nodes := rfl
  have hlen : x.eng.bag.length = x.bag.bn := by show ((List.range x.bag.bn).map x.bag.M).length = _; simp
  have hbn := hR.bn
  have herr := Eng.err_expire (n := n.net) (e := x.eng) (v := v.ev) hkd (show 0 ≤ v.loc by omega) (show v.loc < n.net.nodes by omega)
  have Herr : Hid (x.eng.stepErr n.net v.ev = if v.b < 0 ∨ (N : Int) ≤ v.b then 5 else 0) := hide (by rw [herr, hnn]; rfl)
  have Hstep : Hid (∀ b : Nat, v.b = b → x.eng.step n.net v.ev = (x.eng.untell k b).look n.net k) := hide (fun b hb => by rw [Eng.does_expire (v := v.ev) hkd]; show x.eng.expire n.net v.loc.toNat v.b.toNat = _; rw [hk, hb]; rfl)
  have HCp := hide (fun W (hb : Below w.heap.size w W) => refCopied_any x N W (hx.grown hb) hR.gn hN0 hN6 hR.bn hR.rl hR.tl hR.ll)
  have HLk := hide (fun (m : EngM) W (hb : Below w.heap.size w W) (hm : m.In W.heap.size W) (hr : m.Right n.net N) => refLooked_any n m N k W (h.grown hb) hm hN hr hkN)
  have hncE : n.cells = #[.int .i64 n.a.size, .slice n.a.B.ga n.a.B.t.len n.a.B.cap, .slice n.a.E.ga n.a.E.t.len n.a.E.cap, .int .i64 N, .slice n.la n.ln n.lc] := by simp only [NetM.cells, Mat.val, hN]
  simp only [EngM.val, EngM.cells, NetM.val, hncE] at HCp HLk
  clear herr hncE
  obtain ⟨W0, hW0⟩ : ∃ W0, W0 = (((w.alloc (.cells n.cells 27)).alloc (.cells x.cells 31)).alloc (.cells v.cells 34)).alloc (.cells #[.slice none 0 0, .slice none 0 0] 31) := ⟨_, rfl⟩
  have hs0 : SB w n x v W0 := by rw [hW0]; exact SB.start w n x v
  have hz0 : W0.heap.size = w.heap.size + 4 := by rw [hW0]; simp
  have hnc : n.cells = #[.int .i64 n.a.size, .slice n.a.B.ga n.a.B.t.len n.a.B.cap, .slice n.a.E.ga n.a.E.t.len n.a.E.cap, .int .i64 N, .slice n.la n.ln n.lc] := by simp only [NetM.cells, Mat.val, hN]
  have hvc : v.cells = #[.int .i64 6, .int .i64 (k : Int), .int .i64 v.b, .int .i64 v.c, .slice v.ra v.rl v.rc] := by rw [← hkd, ← hk]; rfl
  have hxc : x.cells = #[.slice x.rs.ga x.rs.gn x.rs.gc, .slice x.bag.ba x.bag.bn x.bag.bc] := rfl
  have H := hide h
  have Hx := hide hx
  have Hv := hide hv
  have HR := hide hR
  have Hs0 := hide hs0
  have Hz0 := hide hz0
  have Hnc := hide hnc
  have Hvc := hide hvc
  have Hxc := hide hxc
  have HN := hide hN
  have Hlen := hide hlen
  have Hnn := hide hnn
  have HNN := hide hNN
  have Hkd := hide hkd
  have Hk := hide hk
  have HIs := hide (fun (i : Int) (W : World) => isNode_any n i W (by omega) (by omega))
  simp only [NetM.val, hnc, hN] at HIs
  rw [hnc, hvc, hxc] at hW0
  simp only [NetM.val, EngM.val, EvM.val, hnc, hvc, hxc]
  have HW0 := hide hW0
  have v0 := Hs0.out.bv.cell 0
  have v1 := Hs0.out.bv.cell 1
  have v2 := Hs0.out.bv.cell 2
  have v3 := Hs0.out.bv.cell 3
  have v4 := Hs0.out.bv.cell 4
  rw [Hvc.out] at v0 v1 v2 v3 v4
  simp at v0 v1 v2 v3 v4
  have n0 := Hs0.out.bn.cell 0
  have n1 := Hs0.out.bn.cell 1
  have n2 := Hs0.out.bn.cell 2
  have n3 := Hs0.out.bn.cell 3
  have n4 := Hs0.out.bn.cell 4
  rw [Hnc.out] at n0 n1 n2 n3 n4
  simp at n0 n1 n2 n3 n4
  have x0 := Hs0.out.bx.cell 0
  have x1 := Hs0.out.bx.cell 1
  rw [Hxc.out] at x0 x1
  simp at x0 x1
  clear h hx hv hR hs0 hz0 hnc hvc hxc hN hW0 hlen hnn hNN hkd hnn' hk 
  go_enter Tryz.func10, Tryz.ntmps10
  go_wp2_with fail
  rw [← HW0.out]
  go_at_call 24
  refine (between_any _ _ _ _).mono ?_
  rintro e w1 ⟨rfl, hw1⟩
  rw [hw1]
  clear hw1
  have hb1 : (decide ((1 : Int) ≤ 6) && decide ((6 : Int) ≤ 7)) = true := by decide
  rw [hb1]
  clear hb1
  go_wp2_with fail
  go_at_call 24
  refine (between_any _ _ _ _).mono ?_
  rintro e w1 ⟨rfl, hw1⟩
  rw [hw1]
  clear hw1
  have hb2 : (decide ((2 : Int) ≤ 6) && decide ((6 : Int) ≤ 5)) = false := by decide
  rw [hb2]
  clear hb2
  go_wp2_with fail
  go_at_call 25
  refine (HIs.out _ _).mono ?_
  rintro e W1 ⟨rfl, hW1⟩
  have Hb01 : Hid (Below W0.heap.size W0 W1) := hide (by rw [hW1]; exact (Below.refl _ _).alloc (Nat.le_refl _) _)
  have Hs1 := hide (Hs0.out.keep Hb01.out)
  have Hz1 : Hid (w.heap.size + 4 ≤ W1.heap.size) := hide (by have := Hb01.out.size; have := Hz0.out; omega)
  clear hW1  v0 v1 v2 v3 v4 n0 n1 n2 n3 n4 x0 x1
  have v0 := Hs1.out.bv.cell 0
  have v1 := Hs1.out.bv.cell 1
  have v2 := Hs1.out.bv.cell 2
  have v3 := Hs1.out.bv.cell 3
  have v4 := Hs1.out.bv.cell 4
  rw [Hvc.out] at v0 v1 v2 v3 v4
  simp at v0 v1 v2 v3 v4
  have n0 := Hs1.out.bn.cell 0
  have n1 := Hs1.out.bn.cell 1
  have n2 := Hs1.out.bn.cell 2
  have n3 := Hs1.out.bn.cell 3
  have n4 := Hs1.out.bn.cell 4
  rw [Hnc.out] at n0 n1 n2 n3 n4
  simp at n0 n1 n2 n3 n4
  have x0 := Hs1.out.bx.cell 0
  have x1 := Hs1.out.bx.cell 1
  rw [Hxc.out] at x0 x1
  simp at x0 x1
  have hb3 : (decide (0 ≤ (k : Int)) && decide ((k : Int) ≤ (N : Int) - 1)) = true := by simp; omega
  rw [hb3]
  clear hb3
  go_wp2_with fail
  go_at_call 25
  refine (HIs.out _ _).mono ?_
  rintro e W2 ⟨rfl, hW2⟩
  have Hb12 : Hid (Below W1.heap.size W1 W2) := hide (by rw [hW2]; exact (Below.refl _ _).alloc (Nat.le_refl _) _)
  have Hs2 := hide (Hs1.out.keep Hb12.out)
  have Hz2 : Hid (w.heap.size + 4 ≤ W2.heap.size) := hide (by have := Hb12.out.size; have := Hz1.out; omega)
  clear hW2  v0 v1 v2 v3 v4 n0 n1 n2 n3 n4 x0 x1
  have v0 := Hs2.out.bv.cell 0
  have v1 := Hs2.out.bv.cell 1
  have v2 := Hs2.out.bv.cell 2
  have v3 := Hs2.out.bv.cell 3
  have v4 := Hs2.out.bv.cell 4
  rw [Hvc.out] at v0 v1 v2 v3 v4
  simp at v0 v1 v2 v3 v4
  have n0 := Hs2.out.bn.cell 0
  have n1 := Hs2.out.bn.cell 1
  have n2 := Hs2.out.bn.cell 2
  have n3 := Hs2.out.bn.cell 3
  have n4 := Hs2.out.bn.cell 4
  rw [Hnc.out] at n0 n1 n2 n3 n4
  simp at n0 n1 n2 n3 n4
  have x0 := Hs2.out.bx.cell 0
  have x1 := Hs2.out.bx.cell 1
  rw [Hxc.out] at x0 x1
  simp at x0 x1
  by_cases hbb : v.b < 0 ∨ (N : Int) ≤ v.b
  · have hb4 : (decide (0 ≤ v.b) && decide (v.b ≤ (N : Int) - 1)) = false := by simp; omega
    rw [hb4]
    clear hb4
    have Her : Hid (x.eng.stepErr n.net v.ev = 5) := hide (by rw [Herr.out, if_pos hbb])
    clear hbb
    have HF := hide (step_no (er := 5) Hs2.out (Her.out) (by decide))
    have c7 := (Hs2.out.br.set 0 (.slice none 0 0)).set 1 (.slice none 0 0)
    have e0 := c7.cell 0
    have e1 := c7.cell 1
    simp at e0 e1
    have r0 := Hs2.out.br.cell 0
    have r1 := Hs2.out.br.cell 1
    have fr0 := Hs2.out.br.frozen 0
    have fr1 := Hs2.out.br.frozen 1
    simp at r0 r1
    clear c7
    go_wp2
    exact bodyPost_ret (v := .tuple #[.agg #[.slice none 0 0, .slice none 0 0], .int .i64 5]) (by simp [results, Tryz.results10, go_sem, e0, e1]) rfl HF.out
  obtain ⟨b, hb⟩ : ∃ b : Nat, v.b = b := ⟨v.b.toNat, by omega⟩
  have hbN : b < N := by omega
  have hb4 : (decide (0 ≤ v.b) && decide (v.b ≤ (N : Int) - 1)) = true := by simp; omega
  rw [hb4]
  have Her : Hid (x.eng.stepErr n.net v.ev = 0) := hide (by rw [Herr.out, if_neg hbb])
  have Hst := hide (Hstep.out b hb)
  rw [hb] at v2
  have HC := hide (HCp.out W2 Hs2.out.below)
  have Hbb := hide hb
  clear hb4 hbb hb HCp
  go_wp2_with fail
  go_at_call 35
  refine HC.out.mono ?_
  rintro r W3 ⟨⟨P0, Bv, y, hL3, rfl⟩, hb3⟩
  obtain ⟨ba, bc, hBv⟩ := own_form hL3.live.bag
  obtain ⟨P, hP⟩ : ∃ P, P = W3.heap.size := ⟨_, rfl⟩
  obtain ⟨W4, hW4⟩ : ∃ W4, W4 = W3.alloc (.cells #[.slice (some ⟨y.G, 0, none⟩) N y.gc, Bv] 31) := ⟨_, rfl⟩
  have hb34 : Below W3.heap.size W3 W4 := by rw [hW4]; exact (Below.refl _ W3).alloc (Nat.le_refl _) _
  have hb24 := hb3.trans (hb34.mono hb3.size)
  have hL4 := hL3.rebox
  rw [← hW4, ← hP] at hL4
  have HL4 := hide hL4.live
  have Hs4 := hide (Hs2.out.keep hb24)
  have Hz4 : Hid (w.heap.size + 4 ≤ W4.heap.size) := hide (by have := hb24.size; have := Hz2.out; omega)
  rw [hBv] at hW4
  rw [hBv]
  have HW4 := hide hW4
  have HP := hide hP
  have HBv := hide hBv
  clear hL3 hb3 hb34 hb24 hL4 hW4 hP HC  v0 v1 v2 v3 v4 n0 n1 n2 n3 n4 x0 x1
  go_wp2_with fail
  rw [← HW4.out, ← HP.out]
  have hset := (HL4.out.below (W' := W4.drew) ⟨rfl, rfl, rfl, Nat.le_refl _, fun _ _ => rfl⟩).setTold hkN hbN false (x.eng.D k b) none 0 0 0 (fun h0 => by cases h0)
  simp only [Bool.false_eq_true, if_false] at hset
  have hset2 := hset.congr (e' := x.eng.untell k b) (fun _ _ _ _ => rfl) (fun _ _ _ _ => rfl) (fun r q c _ _ _ ht => by
    show (if r = k ∧ q = b then x.eng.D k b else x.eng.D r q) c = x.eng.D r q c
    split
    · next hh => rw [hh.1, hh.2]
    · rfl) rfl
  obtain ⟨y5, hy5, hyG, hyc⟩ : ∃ y5 : Lay, Live W2.heap.size P N (x.eng.untell k b) Bv y5 (W4.drew.setCell ⟨y.Tb k, b, none⟩ (.slice none 0 0)) ∧ y5.G = y.G ∧ y5.gc = y.gc := ⟨_, hset2, rfl, rfl⟩
  obtain ⟨W5, hW5⟩ : ∃ W5, W5 = W4.drew.setCell ⟨y.Tb k, b, none⟩ (.slice none 0 0) := ⟨_, rfl⟩
  have hlt := HL4.out.lt k hkN
  have Hs5 : Hid (SB w n x v W5) := hide (by rw [hW5]; exact SB.set (W := W4.drew) (Hs4.out.keep ⟨rfl, rfl, rfl, Nat.le_refl _, fun _ _ => rfl⟩) (by have := Hz2.out; omega) _ _)
  have hL5 : Live W2.heap.size P N (x.eng.untell k b) Bv y5 W5 := by rw [hW5]; exact hy5
  have hz5 : W5.heap.size = W4.heap.size := by rw [hW5]; exact (show (W4.setCell ⟨y.Tb k, b, none⟩ (.slice none 0 0)).heap.size = _ by simp)
  obtain ⟨m5, hm1, hm2, hm3, hm4, _⟩ := hL5.right HR.out.check HN.out (HR.out.fit.untell k b)
  have HC5 := hide (HLk.out m5 W5 Hs5.out.below hm2 hm4)
  have hmv : #[Value.slice m5.rs.ga m5.rs.gn m5.rs.gc, .slice m5.bag.ba m5.bag.bn m5.bag.bc] = #[.slice (some ⟨y.G, 0, none⟩) N y.gc, Bv] := by rw [← hyG, ← hyc, ← hm1]; rfl
  rw [hmv, hm3, HBv.out] at HC5
  have p0 := hL5.head.cell 0
  have p1 := hL5.head.cell 1
  rw [hyG, hyc, HBv.out] at p0 p1
  simp at p0 p1
  have q0 := HL4.out.head.cell 0
  have q1 := HL4.out.rtrs.cell (k * 2 + 1)
  rw [HL4.out.r1 k hkN] at q1
  have q2 := (HL4.out.tolds k hkN).cell b
  rw [HL4.out.t0 k hkN b hbN] at q2
  have fq2 := (HL4.out.tolds k hkN).frozen b
  simp at q0
  have Q0 := hide q0
  have Q1 := hide q1
  have Q2 := hide q2
  have Fq2 := hide fq2
  have HW5 := hide hW5
  have Hz5 : Hid (w.heap.size + 3 < W5.heap.size) := hide (by rw [hz5]; have := Hz4.out; omega)
  have v0 := Hs4.out.bv.cell 0
  have v1 := Hs4.out.bv.cell 1
  have v2 := Hs4.out.bv.cell 2
  have v3 := Hs4.out.bv.cell 3
  have v4 := Hs4.out.bv.cell 4
  rw [Hvc.out] at v0 v1 v2 v3 v4
  simp at v0 v1 v2 v3 v4
  have V1 := hide v1
  have V2 := hide v2
  rw [Hbb.out] at V2
  have v0 := Hs5.out.bv.cell 0
  have v1 := Hs5.out.bv.cell 1
  have v2 := Hs5.out.bv.cell 2
  have v3 := Hs5.out.bv.cell 3
  have v4 := Hs5.out.bv.cell 4
  rw [Hvc.out] at v0 v1 v2 v3 v4
  simp at v0 v1 v2 v3 v4
  have n0 := Hs5.out.bn.cell 0
  have n1 := Hs5.out.bn.cell 1
  have n2 := Hs5.out.bn.cell 2
  have n3 := Hs5.out.bn.cell 3
  have n4 := Hs5.out.bn.cell 4
  rw [Hnc.out] at n0 n1 n2 n3 n4
  simp at n0 n1 n2 n3 n4
  have hki : (k : Int) < (N : Int) := by omega
  have hbi : (b : Int) < (N : Int) := by omega
  have HkN := hide hkN
  clear hset hset2 hy5 hL5 hm1 hm2 hm3 hm4 hmv q0 q1 q2 fq2 hlt hz5 hyG hyc hW5 hBv
  refine wp_region_last 10 _ (fun W => W = W4.drew) (valsE [.pointer (some ⟨P, 0, none⟩), .slice (some ⟨y.G, 0, none⟩) N y.gc, .pointer (some ⟨w.heap.size + 1 + 1, 1, none⟩), .int .i64 (k : Int), .pointer (some ⟨y.G, k * 2, none⟩), .pointer (some ⟨y.G, k * 2 + 1, none⟩), .slice (some ⟨y.Tb k, 0, none⟩) N (y.Tc k), .pointer (some ⟨w.heap.size + 1 + 1, 2, none⟩), .int .i64 (b : Int), .pointer (some ⟨y.Tb k, b, none⟩)]) (fun _ W => W = W5) (fun _ _ _ => True) (by kernel_rfl) (by kernel_rfl) (by kernel_rfl) (by kernel_rfl) (by kernel_rfl) rfl rfl ⟨?_, ?_, ?_, ?_, ?_, ?_, ?_, ?_, ?_, ?_, trivial⟩ ?_ trivial ?_
  rotate_right
  · intro t W hG _
    simp only [fill, Act.put, List.setIfInBounds_toArray, List.set_cons_zero, List.set_cons_succ]
    subst hG
    go_wp2_with fail
    go_at_call 31
    refine HC5.out.mono ?_
    rintro r W6 ⟨⟨P6, Bv6, y6, hL6, rfl⟩, hb6⟩
    have Hs6 := hide (Hs5.out.keep hb6)
    obtain ⟨ba6, bc6, hBv6⟩ := own_form hL6.live.bag
    have HF := hide (step_fin hL6.live Hs6.out (by have := Hz5.out; omega) HR.out.check HN.out ((HR.out.fit.untell k b).look (Net.good_of_check HR.out.check) (by have := HNN.out; have := HkN.out; omega)) Hst.out.symm Her.out)
    have c7 := (Hs6.out.br.set 0 (.slice (some ⟨y6.G, 0, none⟩) N y6.gc)).set 1 Bv6
    have e0 := c7.cell 0
    have e1 := c7.cell 1
    simp at e0 e1
    have r0 := Hs6.out.br.cell 0
    have r1 := Hs6.out.br.cell 1
    have fr0 := Hs6.out.br.frozen 0
    have fr1 := Hs6.out.br.frozen 1
    simp at r0 r1
    rw [hBv6] at HF e0 e1
    rw [hBv6]
    generalize (Eng.look n.net (x.eng.untell k b) k).bag.length = bl at *
    clear c7 hBv6 hL6 hb6 HC5 v0 v1 v2 v3 v4 n0 n1 n2 n3 n4 p0 p1
    go_wp2
    exact bodyPost_ret (v := .tuple #[.agg #[.slice (some ⟨y6.G, 0, none⟩) N y6.gc, .slice ba6 bl bc6], .int .i64 0]) (by simp [results, Tryz.results10, go_sem, e0, e1]) rfl HF.out
  rotate_right
  · intro t W hG hE _ K hK
    have e9 := valsE_get (hE 9 (by omega)) rfl
    subst hG
    simp only [fill, Act.put, List.setIfInBounds_toArray, List.set_cons_zero, List.set_cons_succ, e9] at hK ⊢
    rw [if_pos (by rfl)]
    have cq : W4.drew.cell? ⟨y.Tb k, b, none⟩ = some (.slice (y.ta k b) (if x.eng.told k b = true then N else 0) (y.tc k b)) := Q2.out
    have fq : W4.drew.frozen? ⟨y.Tb k, b, none⟩ = false := Fq2.out
    go_simp
    exact hK undef _ HW5.out.symm
  all_goals intro t W hG hp ht K hK
  all_goals clear ht
  all_goals subst hG
  all_goals simp only [fill, Act.put, List.setIfInBounds_toArray, List.set_cons_zero, List.set_cons_succ] at hK ⊢
  · rw [if_pos (by rfl)]
    go_simp
    exact hK _ _ rfl rfl (fun _ _ _ h => h)
  · have e0 := valsE_get (hp 0 (by decide)) rfl
    have cq : W4.drew.cell? ⟨P, 0, none⟩ = some (.slice (some ⟨y.G, 0, none⟩) N y.gc) := Q0.out
    simp only [e0] at hK ⊢
    rw [if_pos (by rfl)]
    go_simp
    exact hK _ _ rfl rfl (fun _ _ _ h => h)
  · rw [if_pos (by rfl)]
    go_simp
    exact hK _ _ rfl rfl (fun _ _ _ h => h)
  · have e2 := valsE_get (hp 2 (by decide)) rfl
    have cq : W4.drew.cell? ⟨w.heap.size + 2, 1, none⟩ = some (.int .i64 (k : Int)) := V1.out
    simp only [e2] at hK ⊢
    rw [if_pos (by rfl)]
    go_simp
    exact hK _ _ rfl rfl (fun _ _ _ h => h)
  · have e1 := valsE_get (hp 1 (by decide)) rfl
    have e3 := valsE_get (hp 3 (by decide)) rfl
    simp only [e1, e3] at hK ⊢
    rw [if_pos (by rfl)]
    go_simp
    exact hK _ _ rfl rfl (fun _ _ _ h => h)
  · have e4 := valsE_get (hp 4 (by decide)) rfl
    simp only [e4] at hK ⊢
    rw [if_pos (by rfl)]
    go_simp
    exact hK _ _ rfl rfl (fun _ _ _ h => h)
  · have e5 := valsE_get (hp 5 (by decide)) rfl
    have cq : W4.drew.cell? ⟨y.G, k * 2 + 1, none⟩ = some (.slice (some ⟨y.Tb k, 0, none⟩) N (y.Tc k)) := Q1.out
    simp only [e5] at hK ⊢
    rw [if_pos (by rfl)]
    go_simp
    exact hK _ _ rfl rfl (fun _ _ _ h => h)
  · rw [if_pos (by rfl)]
    go_simp
    exact hK _ _ rfl rfl (fun _ _ _ h => h)
  · have e7 := valsE_get (hp 7 (by decide)) rfl
    have cq : W4.drew.cell? ⟨w.heap.size + 2, 2, none⟩ = some (.int .i64 (b : Int)) := V2.out
    simp only [e7] at hK ⊢
    rw [if_pos (by rfl)]
    go_simp
    exact hK _ _ rfl rfl (fun _ _ _ h => h)
  · have e6 := valsE_get (hp 6 (by decide)) rfl
    have e8 := valsE_get (hp 8 (by decide)) rfl
    simp only [e6, e8] at hK ⊢
    rw [if_pos (by rfl)]
    go_simp
    exact hK _ _ rfl rfl (fun _ _ _ h => h)

end Go.Proofs.YtjhkadffaephmabGreat

/-
  Mail that is put behind the bag, in a region that draws its order.
-/
namespace Go.Proofs.YtjhkadffaephmabGreat
set_option maxRecDepth 100000
open Go.RowKit

theorem append_one (W : World) (base : Nat) (V : Value) (l : List Mail) (m : Mail) (ho : W.ownsRow base 69 3 V l.length (mailsL l)) (hk : l.length ≤ 200) (hC : base ≤ W.heap.size) {s : Nat} (hs : Blk W s #[.int .i64 m.F, .int .i64 m.T, .string ⟨m.b.toArray⟩] 69) (ty : TypeId) :
    ∃ g cap W4, (Builtin.append_ #[29, 29] ty #[V, .slice (some ⟨s, 0, none⟩) 1 1]).run Tryz.prog W = .ok (.slice (some ⟨g, 0, none⟩) (l.length + 1) cap) W4 ∧
      W4.ownsRow base 69 3 (.slice (some ⟨g, 0, none⟩) (l.length + 1) cap) (l ++ [m]).length (mailsL (l ++ [m])) ∧ W.grownBy W4 V.ownBlock ∧ (V.ownBlock = some g ∨ W.heap.size ≤ g) := by
  obtain ⟨i0, hi0, hq⟩ : ∃ i, Tryz.prog.info? 69 = some i ∧ (i.zero.map (fun z => z.cells.size), i.size, i.bytes) = (some 3, 3, 32) := Option.map_eq_some_iff.1 Tryz.infoMail
  obtain ⟨z, hz, hzs⟩ : ∃ z, i0.zero = some z ∧ z.cells.size = 3 := by
    have := congrArg Prod.fst hq
    simpa [Option.map_eq_some_iff] using this
  have hsz : i0.size = 3 := congrArg (fun x => x.2.1) hq
  have hby : i0.bytes = 32 := congrArg (fun x => x.2.2) hq
  obtain ⟨g, cap, w', hr, h2, h3, h4, h5⟩ := run_append_lies (P := Tryz.prog) W 29 ty base 69 i0 z 3 32 Tryz.underlying29 hi0 hz hsz hby hzs (by decide) V l.length _ ho ⟨s, 0, none⟩ 1 1 [.int .i64 m.F, .int .i64 m.T, .string ⟨m.b.toArray⟩] rfl (World.news_of_block (cs := #[.int .i64 m.F, .int .i64 m.T, .string ⟨m.b.toArray⟩]) hs) (by simp [Value.oneCell']) (by decide) (by unfold maxLen; omega) (by omega) (by omega) _ rfl
  refine ⟨g, cap, w', hr, ?_, h3, h4.imp id (fun h => by omega)⟩
  rw [mailsL_append, List.length_append]
  exact h2

theorem SB.keepLo {w : World} {n : NetM} {x : EngM} {v : EvM} {W W' : World} {lo : Nat} (h : SB w n x v W) (hb : Below lo W W') (hlo : w.heap.size + 3 < lo) : SB w n x v W' :=
  ⟨h.below.trans (hb.mono (by omega)), h.bn.below hb (by omega), h.bx.below hb (by omega), h.bv.below hb (by omega), h.br.below hb (by omega)⟩

/-- While mail is put behind the bag: a, it was put; s, the bag was stored. -/
structure AddG (w : World) (n : NetM) (x : EngM) (v : EvM) (lo P N : Nat) (e : Eng) (m : Mail) (Bv : Value) (y : Lay) (W4 : World) (a s : Bool) (W : World) : Prop where
  old : a = false → Below W4.heap.size W4 W
  mid : s = false → W4.grownBy W Bv.ownBlock
  fin : s = true → ∃ Bv', Live lo P N { e with bag := e.bag ++ [m] } Bv' y W ∧ SB w n x v W ∧ W4.heap.size ≤ W.heap.size ∧ (∀ b, b < W4.heap.size → Bv.ownBlock ≠ some b → b ≠ P → W.heap[b]? = W4.heap[b]?) ∧ (∀ b, b < W4.heap.size → Bv'.ownBlock = some b → Bv.ownBlock = some b)
def addE (vs : List Value) (p8 p9 pS lo : Nat) (l : List Mail) (m : Mail) (Bv : Value) (W4 : World) (a s : Bool) (q : Nat) (v : Value) (W : World) : Prop :=
  if q = p8 then (a = false → ∃ g, v = .slice (some ⟨g, 0, none⟩) 1 1 ∧ Blk W g #[.int .i64 m.F, .int .i64 m.T, .string ⟨m.b.toArray⟩] 69)
  else if q = p9 then (s = false → ∃ g cap, v = .slice (some ⟨g, 0, none⟩) (l.length + 1) cap ∧ W.ownsRow lo 69 3 (.slice (some ⟨g, 0, none⟩) (l.length + 1) cap) (l ++ [m]).length (mailsL (l ++ [m])) ∧ (Bv.ownBlock = some g ∨ W4.heap.size ≤ g))
  else if q = pS then True
  else vs[q]? = some v
section
variable {w : World} {n : NetM} {x : EngM} {v : EvM} {lo P N : Nat} {e : Eng} {m : Mail} {Bv : Value} {y : Lay} {W4 W W' : World} {a s : Bool} {vs : List Value} {p8 p9 pS : Nat} {l : List Mail} {q : Nat} {u u' : Value}
theorem addE_keep (hb : Below W.heap.size W W') (h : addE vs p8 p9 pS lo l m Bv W4 a s q u W) : addE vs p8 p9 pS lo l m Bv W4 a s q u W' := by
  unfold addE at h ⊢
  split
  · next e1 => rw [if_pos e1] at h; exact fun h0 => by obtain ⟨g, h1, h2⟩ := h h0; exact ⟨g, h1, h2.below hb h2.lt⟩
  · next e1 =>
    rw [if_neg e1] at h
    split
    · next e2 => rw [if_pos e2] at h; exact fun h0 => by obtain ⟨g, c, h1, h2, h3⟩ := h h0; exact ⟨g, c, h1, owns_below h2 hb, h3⟩
    · next e2 => rw [if_neg e2] at h; exact h
theorem addE_put (h8 : q ≠ p8) (h9 : q ≠ p9) (hS : q ≠ pS) (h : vs[q]? = some u) : addE vs p8 p9 pS lo l m Bv W4 a s q u W := by
  unfold addE; rw [if_neg h8, if_neg h9, if_neg hS]; exact h
theorem addE_get (h : addE vs p8 p9 pS lo l m Bv W4 a s q u W) (h8 : q ≠ p8) (h9 : q ≠ p9) (hS : q ≠ pS) (hu : vs[q]? = some u') : u = u' := by
  unfold addE at h; rw [if_neg h8, if_neg h9, if_neg hS, hu] at h; exact (Option.some.inj h).symm
theorem addE_8 : addE vs p8 p9 pS lo l m Bv W4 a s p8 u W ↔ (a = false → ∃ g, u = .slice (some ⟨g, 0, none⟩) 1 1 ∧ Blk W g #[.int .i64 m.F, .int .i64 m.T, .string ⟨m.b.toArray⟩] 69) := by
  unfold addE; rw [if_pos rfl]
theorem addE_9 (h : p9 ≠ p8) : addE vs p8 p9 pS lo l m Bv W4 a s p9 u W ↔ (s = false → ∃ g cap, u = .slice (some ⟨g, 0, none⟩) (l.length + 1) cap ∧ W.ownsRow lo 69 3 (.slice (some ⟨g, 0, none⟩) (l.length + 1) cap) (l ++ [m]).length (mailsL (l ++ [m])) ∧ (Bv.ownBlock = some g ∨ W4.heap.size ≤ g)) := by
  unfold addE; rw [if_neg h, if_pos rfl]
theorem addE_S (h8 : pS ≠ p8) (h9 : pS ≠ p9) : addE vs p8 p9 pS lo l m Bv W4 a s pS u W := by
  unfold addE; rw [if_neg h8, if_neg h9, if_pos rfl]; trivial
theorem addE_a (W' : World) (hq : q ≠ p9) (h : addE vs p8 p9 pS lo l m Bv W4 false false q u W) : addE vs p8 p9 pS lo l m Bv W4 true false q u W' := by
  unfold addE at h ⊢
  by_cases e1 : q = p8
  · rw [if_pos e1]; intro h0; cases h0
  · rw [if_neg e1, if_neg hq] at h ⊢; exact h
theorem addE_s (W' : World) (h : addE vs p8 p9 pS lo l m Bv W4 true false q u W) : addE vs p8 p9 pS lo l m Bv W4 true true q u W' := by
  unfold addE at h ⊢
  split
  · intro h0; cases h0
  · next e1 =>
    rw [if_neg e1] at h
    split
    · intro h0; cases h0
    · next e2 => rw [if_neg e2] at h; exact h
theorem AddG.start (hb : Below W4.heap.size W4 W) : AddG w n x v lo P N e m Bv y W4 false false W :=
  ⟨fun _ => hb, fun _ => ⟨hb.os, hb.tape, hb.output, hb.size, fun k hk _ => hb.block k hk⟩, fun h0 => by cases h0⟩
theorem AddG.keep (h : AddG w n x v lo P N e m Bv y W4 a false W) (hb : Below W.heap.size W W') : AddG w n x v lo P N e m Bv y W4 a false W' :=
  ⟨fun h0 => (h.old h0).trans (hb.mono (h.old h0).size), fun _ => by
    have h1 := h.mid rfl
    exact ⟨hb.os.trans h1.os, hb.tape.trans h1.tape, hb.output.trans h1.output, Nat.le_trans h1.size hb.size, fun k hk hn => (hb.block k (Nat.lt_of_lt_of_le hk h1.size)).trans (h1.block k hk hn)⟩, fun h0 => by cases h0⟩
theorem AddG.append (h : AddG w n x v lo P N e m Bv y W4 false false W) (hL : Live lo P N e Bv y W4) (hk : e.bag.length ≤ 200) {g8 : Nat} (hs : Blk W g8 #[.int .i64 m.F, .int .i64 m.T, .string ⟨m.b.toArray⟩] 69) (ty : TypeId) :
    ∃ g cap W9, (Builtin.append_ #[29, 29] ty #[Bv, .slice (some ⟨g8, 0, none⟩) 1 1]).run Tryz.prog W = .ok (.slice (some ⟨g, 0, none⟩) (e.bag.length + 1) cap) W9 ∧ AddG w n x v lo P N e m Bv y W4 true false W9 ∧
      W9.ownsRow lo 69 3 (.slice (some ⟨g, 0, none⟩) (e.bag.length + 1) cap) (e.bag ++ [m]).length (mailsL (e.bag ++ [m])) ∧ (Bv.ownBlock = some g ∨ W4.heap.size ≤ g) := by
  have hb := h.old rfl
  have hl := hL.below hb
  have hlo : lo ≤ W.heap.size := Nat.le_trans (Nat.le_of_lt (Nat.lt_of_le_of_lt hL.lp hL.head.lt)) hb.size
  obtain ⟨g, cap, W9, hr, ho, hg, hat⟩ := append_one W lo Bv e.bag m hl.bag hk hlo hs ty
  refine ⟨g, cap, W9, hr, ⟨fun h0 => (by cases h0), fun _ => ⟨hg.os.trans hb.os, hg.tape.trans hb.tape, hg.output.trans hb.output, Nat.le_trans hb.size hg.size, fun k hk hn => (hg.block k (Nat.lt_of_lt_of_le hk hb.size) hn).trans (hb.block k hk)⟩, fun h0 => (by cases h0)⟩, ho, ?_⟩
  rcases hat with h1 | h1
  · exact Or.inl h1
  · exact Or.inr (Nat.le_trans hb.size h1)
theorem AddG.head (h : AddG w n x v lo P N e m Bv y W4 a false W) (hL : Live lo P N e Bv y W4) : Blk W P #[.slice (some ⟨y.G, 0, none⟩) N y.gc, Bv] 31 :=
  ((h.mid rfl).block P hL.head.lt (fun e1 => (hL.bv P e1.symm).1 rfl)).trans hL.head
theorem AddG.store (h : AddG w n x v lo P N e m Bv y W4 a false W) (hL : Live lo P N e Bv y W4) (hS : SB w n x v W4) (hlo : w.heap.size + 3 < lo) {g cap : Nat} (ho : W.ownsRow lo 69 3 (.slice (some ⟨g, 0, none⟩) (e.bag.length + 1) cap) (e.bag ++ [m]).length (mailsL (e.bag ++ [m]))) (hat : Bv.ownBlock = some g ∨ W4.heap.size ≤ g) :
    AddG w n x v lo P N e m Bv y W4 true true (W.setCell ⟨P, 1, none⟩ (.slice (some ⟨g, 0, none⟩) (e.bag.length + 1) cap)) := by
  have hg := h.mid rfl
  have hlw : lo ≤ W4.heap.size := Nat.le_of_lt (Nat.lt_of_le_of_lt hL.lp hL.head.lt)
  have hp := hL.lp
  refine ⟨fun h0 => (by cases h0), fun h0 => (by cases h0), fun _ => ⟨_, hL.setBag hg ho (fun q hq => by cases hq; exact hat), (hS.keepLo (grown_below hg (fun k hk => (hL.bag.lt k hk).1) hlw) hlo).set (by omega) _ _, by simpa using hg.size, fun b hb hn hP => ?_, fun b hb hq => ?_⟩⟩
  · rw [Below.heap_setCell _ _ _ _ hP]
    exact hg.block b hb (fun e1 => hn e1.symm)
  · have hq' : g = b := Option.some.inj hq
    rcases hat with h1 | h1
    · rw [h1, hq']
    · omega
end

end Go.Proofs.YtjhkadffaephmabGreat
