/-
  Our own texts, bundled: a claim holds few files.
-/
import Derived.Test.YtjhkadffaephmabGreatCutEngineStepsCE
import Derived.Test.YtjhkadffaephmabGreatCutEngineStepsAF
/-
  signpostref.StepOf: mail is lost.
-/
namespace Go.Proofs.YtjhkadffaephmabGreat
set_option maxRecDepth 100000
open Go.RowKit

set_option maxHeartbeats 16000000 in
theorem stepOf_lose (n : NetM) (x : EngM) (v : EvM) (N : Nat) (w : World) (h : n.In w.heap.size w) (hx : x.In w.heap.size w) (hv : v.In w.heap.size w) (hN : n.nodes = N) (hR : x.Right n.net N) (hcap : x.bag.bn ≤ x.bag.bc) (k : Nat) (hk : v.loc = (k : Int)) (hkd : v.kind = 4) (hkb : k < x.bag.bn) :
    Calls Tryz.prog 10 #[n.val, x.val, v.val] w fun r w' => StepRef n.net x v.ev w r w' := by
  obtain ⟨hN0, hN6, hNN, hnn⟩ := nodes_six hR.check hN
  have hnn' : n.net.nodes = n.nodes := rfl
  have hlen : x.eng.bag.length = x.bag.bn := by show ((List.range x.bag.bn).map x.bag.M).length = _; simp
  have hbn := hR.bn
  have herr : x.eng.stepErr n.net v.ev = 0 := Eng.err_lose (v := v.ev) hkd (show 0 ≤ v.loc by omega) (show v.loc < (x.eng.bag.length : Int) by omega)
  have hstep : x.eng.without k = x.eng.step n.net v.ev := by rw [Eng.does_lose (v := v.ev) hkd]; show _ = x.eng.without v.loc.toNat; rw [hk]; rfl
  have Herr := hide herr
  have Hstep := hide hstep
  have HW := hide (fun W (hb : Below w.heap.size w W) => refWithout_any x N k W (hx.grown hb) hR.gn hN0 hN6 hR.bn hR.rl hR.tl hR.ll hkb hcap)
  simp only [EngM.val, EngM.cells] at HW
  clear herr hstep
  obtain ⟨W0, hW0⟩ : ∃ W0, W0 = (((w.alloc (.cells n.cells 27)).alloc (.cells x.cells 31)).alloc (.cells v.cells 34)).alloc (.cells #[.slice none 0 0, .slice none 0 0] 31) := ⟨_, rfl⟩
  have hs0 : SB w n x v W0 := by rw [hW0]; exact SB.start w n x v
  have hz0 : W0.heap.size = w.heap.size + 4 := by rw [hW0]; simp
  have hnc : n.cells = #[.int .i64 n.a.size, .slice n.a.B.ga n.a.B.t.len n.a.B.cap, .slice n.a.E.ga n.a.E.t.len n.a.E.cap, .int .i64 N, .slice n.la n.ln n.lc] := by simp only [NetM.cells, Mat.val, hN]
  have hvc : v.cells = #[.int .i64 4, .int .i64 (k : Int), .int .i64 v.b, .int .i64 v.c, .slice v.ra v.rl v.rc] := by rw [← hkd, ← hk]; rfl
  have hxc : x.cells = #[.slice x.rs.ga x.rs.gn x.rs.gc, .slice x.bag.ba x.bag.bn x.bag.bc] := rfl
  have H := hide h
  have Hx := hide hx
  have Hv := hide hv
  have HR := hide hR
  have Hs0 := hide hs0
  have Hz0 := hide hz0
  have Hnc := hide hnc
  have Hvc := hide hvc
  have Hxc := hide hxc
  have HN := hide hN
  have Hlen := hide hlen
  have Hnn := hide hnn
  have HNN := hide hNN
  have Hkd := hide hkd
  have Hk := hide hk
  rw [hnc, hvc, hxc] at hW0
  simp only [NetM.val, EngM.val, EvM.val, hnc, hvc, hxc]
  have HW0 := hide hW0
  have v0 := Hs0.out.bv.cell 0
  have v1 := Hs0.out.bv.cell 1
  have v2 := Hs0.out.bv.cell 2
  have v3 := Hs0.out.bv.cell 3
  have v4 := Hs0.out.bv.cell 4
  rw [Hvc.out] at v0 v1 v2 v3 v4
  simp at v0 v1 v2 v3 v4
  have n0 := Hs0.out.bn.cell 0
  have n1 := Hs0.out.bn.cell 1
  have n2 := Hs0.out.bn.cell 2
  have n3 := Hs0.out.bn.cell 3
  have n4 := Hs0.out.bn.cell 4
  rw [Hnc.out] at n0 n1 n2 n3 n4
  simp at n0 n1 n2 n3 n4
  have x0 := Hs0.out.bx.cell 0
  have x1 := Hs0.out.bx.cell 1
  rw [Hxc.out] at x0 x1
  simp at x0 x1
  clear h hx hv hR hs0 hz0 hnc hvc hxc hN hW0 hlen hnn hNN hkd hnn' hk 
  go_enter Tryz.func10, Tryz.ntmps10
  go_wp2_with fail
  rw [← HW0.out]
  go_at_call 24
  refine (between_any _ _ _ _).mono ?_
  rintro e w1 ⟨rfl, hw1⟩
  rw [hw1]
  clear hw1
  have hb1 : (decide ((1 : Int) ≤ 4) && decide ((4 : Int) ≤ 7)) = true := by decide
  rw [hb1]
  clear hb1
  go_wp2_with fail
  go_at_call 24
  refine (between_any _ _ _ _).mono ?_
  rintro e w1 ⟨rfl, hw1⟩
  rw [hw1]
  clear hw1
  have hb2 : (decide ((2 : Int) ≤ 4) && decide ((4 : Int) ≤ 5)) = true := by decide
  rw [hb2]
  clear hb2
  go_wp2_with fail
  go_at_call 24
  refine (between_any _ _ _ _).mono ?_
  rintro e w1 ⟨rfl, hw1⟩
  rw [hw1]
  clear hw1
  have hb3 : (decide (0 ≤ (k : Int)) && decide ((k : Int) ≤ (x.bag.bn : Int) - 1)) = true := by simp; omega
  rw [hb3]
  clear hb3
  have HC := hide (HW.out W0 Hs0.out.below)
  clear HW
  go_wp2_with fail
  go_at_call 33
  refine HC.out.mono ?_
  rintro r W1 ⟨⟨P, Bv, y, hL, rfl⟩, hb1⟩
  have Hs1 := hide (Hs0.out.keep hb1)
  obtain ⟨ba, bc, hBv⟩ := own_form hL.live.bag
  have g := Net.good_of_check HR.out.check
  have HF := hide (step_fin hL.live Hs1.out (by have := Hz0.out; omega) HR.out.check HN.out (HR.out.fit.without k) Hstep.out Herr.out)
  have hBl := hL.live.bag
  have hb6 := Hs1.out.br
  have c7 := (hb6.set 0 (.slice (some ⟨y.G, 0, none⟩) N y.gc)).set 1 Bv
  have e0 := c7.cell 0
  have e1 := c7.cell 1
  simp at e0 e1
  have r0 := Hs1.out.br.cell 0
  have r1 := Hs1.out.br.cell 1
  have fr0 := Hs1.out.br.frozen 0
  have fr1 := Hs1.out.br.frozen 1
  simp at r0 r1
  rw [hBv] at HF e0 e1
  rw [hBv]
  generalize (x.eng.without k).bag.length = bl at *
  clear hL hb1 HC hBv hBl hb6 c7 v0 v1 v2 v3 v4 n0 n1 n2 n3 n4 x0 x1 g
  go_wp2
  exact bodyPost_ret (v := .tuple #[.agg #[.slice (some ⟨y.G, 0, none⟩) N y.gc, .slice ba bl bc], .int .i64 0]) (by simp [results, Tryz.results10, go_sem, e0, e1]) rfl HF.out

end Go.Proofs.YtjhkadffaephmabGreat

/-
  Bits that one of two bytes has, but not both: bit by bit.
-/
namespace Go.Proofs.YtjhkadffaephmabGreat

def xorSum (a b : Nat) : Nat → Nat
  | 0 => 0
  | k + 1 => xorSum a b k + if a / 2 ^ k % 2 ≠ b / 2 ^ k % 2 then 2 ^ k else 0
theorem xor_bit (a b k : Nat) : (a ^^^ b) / 2 ^ k % 2 = if a / 2 ^ k % 2 ≠ b / 2 ^ k % 2 then 1 else 0 := by
  have h : (a ^^^ b).testBit k = (a.testBit k != b.testBit k) := Nat.testBit_xor a b k
  rw [Nat.testBit_eq_decide_div_mod_eq, Nat.testBit_eq_decide_div_mod_eq, Nat.testBit_eq_decide_div_mod_eq] at h
  have h1 := Nat.mod_two_eq_zero_or_one ((a ^^^ b) / 2 ^ k)
  have h2 := Nat.mod_two_eq_zero_or_one (a / 2 ^ k)
  have h3 := Nat.mod_two_eq_zero_or_one (b / 2 ^ k)
  rcases h1 with h1 | h1 <;> rcases h2 with h2 | h2 <;> rcases h3 with h3 | h3 <;> simp [h1, h2, h3] at h ⊢
theorem xorSum_mod (a b : Nat) : ∀ k, xorSum a b k = (a ^^^ b) % 2 ^ k
  | 0 => by simp [xorSum, Nat.mod_one]
  | k + 1 => by
    show xorSum a b k + _ = _
    rw [xorSum_mod a b k, Nat.mod_pow_succ, xor_bit a b k]
    split <;> simp
theorem xorSum_byte {a b : Nat} (ha : a < 256) (hb : b < 256) : xorSum a b 8 = a ^^^ b := by
  rw [xorSum_mod]
  exact Nat.mod_eq_of_lt (Nat.xor_lt_two_pow (n := 8) ha hb)
theorem xorSum_lt (a b k : Nat) : xorSum a b k < 2 ^ k := by
  rw [xorSum_mod]
  exact Nat.mod_lt _ (Nat.two_pow_pos k)

end Go.Proofs.YtjhkadffaephmabGreat
