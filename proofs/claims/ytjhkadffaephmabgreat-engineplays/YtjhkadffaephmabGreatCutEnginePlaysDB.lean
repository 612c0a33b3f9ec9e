/-
  Our own texts, bundled: a claim holds few files.
-/
import Derived.Test.YtjhkadffaephmabGreatCutEnginePlaysBI
import Derived.Test.YtjhkadffaephmabGreatCutEnginePlaysCJ
import Derived.Test.YtjhkadffaephmabGreatCutEnginePlaysCB
import Derived.Test.YtjhkadffaephmabGreatCutEnginePlaysDA
import Derived.Test.YtjhkadffaephmabGreatCutEnginePlaysAC
import Derived.Test.YtjhkadffaephmabGreatCutEnginePlaysAJ
import Derived.Test.YtjhkadffaephmabGreatCutEnginePlaysAI
/-
 engine.Calm.
-/
namespace Go.Proofs.YtjhkadffaephmabGreat
set_option maxRecDepth 100000
open Go.RowKit

/-- What Calm answers. -/
def CalmAns (n : Net) (x : EngM) (rd : Int) (w : World) (r : Ending) (w' : World) : Prop :=
 Below w.heap.size w w' ∧
 ((x.err n ≠ 0 ∧ r = .returned (.tuple #[zeroEng, .int .i64 (x.err n)])) ∨
  (x.err n = 0 ∧ (rd < 0 ∨ 100 < rd) ∧ r = .returned (.tuple #[zeroEng, .int .i64 3])) ∨
  (x.err n = 0 ∧ ¬ (rd < 0 ∨ 100 < rd) ∧ ∃ m : EngM, r = .returned (.tuple #[m.val, .int .i64 0]) ∧ m.In w'.heap.size w' ∧ m.eng = x.eng.calm n rd.toNat ∧ m.err n = 0 ∧ m.Apart w'))

set_option maxHeartbeats 4000000 in
theorem calm_any (n : NetM) (x : EngM) (rd : Int) (w : World) (h : n.In w.heap.size w) (hx : x.In w.heap.size w) :
  Calls Tryz.prog 15 #[n.val, x.val, .int .i64 rd] w fun r w' => CalmAns n.net x rd w r w' := by
 obtain ⟨W1, hW1⟩ : ∃ W1, W1 = ((w.alloc (.cells n.cells 27)).alloc (.cells x.cells 31)).alloc (.cells #[.slice none 0 0, .slice none 0 0] 31) := ⟨_, rfl⟩
 have hB1 : Below w.heap.size w W1 := by rw [hW1]; exact (((Below.refl _ w).alloc (Nat.le_refl _) _).alloc (by simp) _).alloc (by simp; omega) _
 have b3 : Blk W1 w.heap.size n.cells 27 := by rw [hW1]; exact ((Blk.new w _ _).alloc _).alloc _
 have b4 : Blk W1 (w.heap.size + 1) x.cells 31 := by rw [hW1]; exact (show Blk _ (w.heap.size + 1) x.cells 31 from Blk.new' (by simp)).alloc _
 have b6 : Blk W1 (w.heap.size + 1 + 1) #[.slice none 0 0, .slice none 0 0] 31 := by rw [hW1]; exact Blk.new' (by simp)
 have HCk := hide (engineCheck_any n x W1 (h.grown hB1) (hx.grown hB1))
 have H := hide h
 have Hx := hide hx
 have HB1 := hide hB1
 have Hb3 := hide b3
 have Hb4 := hide b4
 have Hb6 := hide b6
 simp only [NetM.val, NetM.cells, Mat.val, EngM.val, EngM.cells] at hW1 HCk ⊢
 rw [hW1] at HCk
 have HW1 := hide hW1
 clear h hx hB1 b3 b4 b6 hW1
 go_enter Tryz.func15, Tryz.ntmps15
 go_wp2_with fail
 go_at_call 9
 refine HCk.out.mono ?_
 rw [← HW1.out]
 rintro r W2 ⟨rfl, hb2⟩
 have c6 := Hb6.out.below hb2 Hb6.out.lt
 have HB2 := hide (HB1.out.trans (hb2.mono HB1.out.size))
 by_cases hck : x.err n.net = 0
 rotate_left
 ·have s0 := c6.cell 0
  have s1 := c6.cell 1
  have f0 := c6.frozen 0
  have f1 := c6.frozen 1
  have c7 := (c6.set 0 (.slice none 0 0)).set 1 (.slice none 0 0)
  have e0 := c7.cell 0
  have e1 := c7.cell 1
  simp at s0 s1 e0 e1
  have hne : (x.err n.net == 0) = false := by simpa using hck
  have HF : Hid (CalmAns n.net x rd w (.returned (.tuple #[.agg #[.slice none 0 0, .slice none 0 0], .int .i64 (x.err n.net)])) ((W2.setCell ⟨w.heap.size + 1 + 1, 0, none⟩ (.slice none 0 0)).setCell ⟨w.heap.size + 1 + 1, 1, none⟩ (.slice none 0 0))) := hide ⟨(HB2.out.setCell (p := ⟨w.heap.size + 1 + 1, 0, none⟩) (by show w.heap.size ≤ w.heap.size + 1 + 1; omega) _).setCell (p := ⟨w.heap.size + 1 + 1, 1, none⟩) (by show w.heap.size ≤ w.heap.size + 1 + 1; omega) _, Or.inl ⟨hck, rfl⟩⟩
  generalize x.err n.net = er at *
  clear c6 c7 hb2 HCk hck
  go_wp2
  exact bodyPost_ret (v := .tuple #[.agg #[.slice none 0 0, .slice none 0 0], .int .i64 er]) (by simp [results, Tryz.results15, go_sem, e0, e1]) rfl HF.out
 by_cases hrd : rd < 0 ∨ 100 < rd
 ·have s0 := c6.cell 0
  have s1 := c6.cell 1
  have f0 := c6.frozen 0
  have f1 := c6.frozen 1
  have c7 := (c6.set 0 (.slice none 0 0)).set 1 (.slice none 0 0)
  have e0 := c7.cell 0
  have e1 := c7.cell 1
  simp at s0 s1 e0 e1
  have HF : Hid (CalmAns n.net x rd w (.returned (.tuple #[.agg #[.slice none 0 0, .slice none 0 0], .int .i64 3])) ((W2.setCell ⟨w.heap.size + 1 + 1, 0, none⟩ (.slice none 0 0)).setCell ⟨w.heap.size + 1 + 1, 1, none⟩ (.slice none 0 0))) := hide ⟨(HB2.out.setCell (p := ⟨w.heap.size + 1 + 1, 0, none⟩) (by show w.heap.size ≤ w.heap.size + 1 + 1; omega) _).setCell (p := ⟨w.heap.size + 1 + 1, 1, none⟩) (by show w.heap.size ≤ w.heap.size + 1 + 1; omega) _, Or.inr (Or.inl ⟨hck, hrd, rfl⟩)⟩
  rw [hck]
  clear c6 c7 hb2 HCk hck
  rcases hrd with hrd | hrd
  ·go_wp2
   exact bodyPost_ret (v := .tuple #[.agg #[.slice none 0 0, .slice none 0 0], .int .i64 3]) (by simp [results, Tryz.results15, go_sem, e0, e1]) rfl HF.out
  ·have hr0 : ¬ rd < 0 := by omega
   go_wp2
   exact bodyPost_ret (v := .tuple #[.agg #[.slice none 0 0, .slice none 0 0], .int .i64 3]) (by simp [results, Tryz.results15, go_sem, e0, e1]) rfl HF.out
 obtain ⟨R, rfl⟩ : ∃ R : Nat, rd = R := ⟨rd.toNat, by omega⟩
 have hR1 : ¬ (R : Int) < 0 := by omega
 have hR2 : ¬ 100 < (R : Int) := by omega
 have hchk : n.net.check = 0 := by
  have := hck
  unfold EngM.err at this
  split at this
  ·next h1 => exact absurd this h1
  ·next h1 => omega
 obtain ⟨N, hN⟩ : ∃ N : Nat, n.nodes = N := ⟨n.nodes.toNat, by have := (Net.good_of_check hchk).lo; have : n.net.nodes = n.nodes := rfl; omega⟩
 obtain ⟨hN0, hN6, hNN, hnn⟩ := nodes_six hchk hN
 have HR := hide (EngM.right hck hnn)
 have HCp := hide (copied_any x N W2 (Hx.out.grown HB2.out) HR.out.gn hN0 hN6 HR.out.bn HR.out.rl HR.out.tl HR.out.ll)
 have c4 := Hb4.out.below hb2 Hb4.out.lt
 have q0 := c4.cell 0
 have q1 := c4.cell 1
 simp [EngM.cells] at q0 q1
 simp only [EngM.val, EngM.cells] at HCp
 rw [hck]
 have Hb2' := hide hb2
 have Hck := hide hck
 clear hb2 HCk c4 c6 hck
 go_wp2_with fail
 go_at_call 18
 refine HCp.out.mono ?_
 rintro r W3 ⟨mid, Bv, y, rfl, hparts, hown, hbm, hGl, hb3⟩
 obtain ⟨ba, bc, hBv⟩ := own_form hown
 obtain ⟨W4, hW4⟩ : ∃ W4, W4 = W3.alloc (.cells #[.slice (some ⟨y.G, 0, none⟩) N y.gc, Bv] 31) := ⟨_, rfl⟩
 have hB4 : Below W3.heap.size W3 W4 := by rw [hW4]; exact (Below.refl _ W3).alloc (Nat.le_refl _) _
 have hb24 := hb3.trans (hB4.mono hb3.size)
 have hlive : Live W2.heap.size W3.heap.size N x.eng Bv y W4 := by rw [hW4]; exact hparts.live hown hbm hb3.size hGl
 have g := Net.good_of_check hchk
 have HnW : Hid (∀ W, Below W2.heap.size W2 W → n.In W2.heap.size W) := hide (fun W hb => (H.out.below (HB2.out.trans (hb.mono HB2.out.size)) (Nat.le_refl _)).mono HB2.out.size)
 have HDA := hide (fun e1 Bv1 y1 W (hb : Below W2.heap.size W2 W) hl hf => deliverAll_any n W2.heap.size W3.heap.size N e1 Bv1 y1 W (HnW.out W hb) hchk hN hl hf)
 have HTk := hide (fun j e1 Bv1 y1 W (hb : Below W2.heap.size W2 W) hl hf hj hK => tick_ok n W2.heap.size W3.heap.size N j e1 Bv1 y1 W (HnW.out W hb) hchk hN hl hf hj hK)
 have Hc3 := hide (Hb3.out.below Hb2'.out Hb3.out.lt)
 have Hc6 := hide (Hb6.out.below Hb2'.out Hb6.out.lt)
 have c3 := Hc3.out.below hb3 Hc3.out.lt
 have x0 : ∀ o, (W3.alloc o).cell? ⟨w.heap.size, 0, none⟩ = some (.int .i64 n.a.size) := fun o => by have := (c3.alloc o).cell 0; simpa [NetM.cells] using this
 have x1 : ∀ o, (W3.alloc o).cell? ⟨w.heap.size, 1, none⟩ = some (.slice n.a.B.ga n.a.B.t.len n.a.B.cap) := fun o => by have := (c3.alloc o).cell 1; simpa [NetM.cells, Mat.val] using this
 have x2 : ∀ o, (W3.alloc o).cell? ⟨w.heap.size, 2, none⟩ = some (.slice n.a.E.ga n.a.E.t.len n.a.E.cap) := fun o => by have := (c3.alloc o).cell 2; simpa [NetM.cells, Mat.val] using this
 have x3 : ∀ o, (W3.alloc o).cell? ⟨w.heap.size, 3, none⟩ = some (.int .i64 N) := fun o => by have := (c3.alloc o).cell 3; simpa [NetM.cells, hN] using this
 have x4 : ∀ o, (W3.alloc o).cell? ⟨w.heap.size, 4, none⟩ = some (.slice n.la n.ln n.lc) := fun o => by have := (c3.alloc o).cell 4; simpa [NetM.cells] using this
 simp only [NetM.val, NetM.cells, Mat.val, hN] at HDA HTk
 have HD4 := hide (HDA.out x.eng Bv y W4 hb24 hlive HR.out.fit)
 have Hfc := hide (HR.out.fit.comes g)
 have Hfr := hide (fun k => Eng.rounds_fit g (HR.out.fit.comes g) (Eng.comes_bag x.eng) k)
 have Hb24 := hide hb24
 rw [hBv] at hW4
 rw [hW4] at HD4
 rw [hBv]
 have HW4 := hide hW4
 have HN := hide hN
 have Hchk := hide hchk
 have HNN := hide hNN
 have Hnn := hide hnn
 clear c3 hb24 hB4 hlive hW4 hBv hparts hown hbm hGl hb3 HCp q0 q1 hN hchk hnn hNN
 go_wp2_with fail
 go_at_call 40
 refine HD4.out.mono ?_
 rw [← HW4.out]
 rintro r W5 ⟨rfl, hl5, hb5⟩
 have HI0 : Hid ((∃ Bv y, Live W2.heap.size W3.heap.size N ((x.eng.comes n.net).rounds n.net 0) Bv y W5) ∧ Below W2.heap.size W2 W5) := hide ⟨hl5, Hb24.out.trans hb5⟩
 clear hl5 hb5 HD4 x0 x1 x2 x3 x4
 go_wp2_with fail
 go_loopw [10, 30, 34] (fun _ q _ wr => ∃ k : Nat, k ≤ R ∧ q = .int .i64 k ∧ Hid ((∃ Bv y, Live W2.heap.size W3.heap.size N ((x.eng.comes n.net).rounds n.net k) Bv y wr) ∧ Below W2.heap.size W2 wr)) (fun _ q _ _ => R - (intOf q).toNat)
 case atStart => exact ⟨0, Nat.zero_le _, rfl, HI0⟩
 case round =>
  obtain ⟨k, hk, rfl, HI⟩ := hrel
  clear HI0
  by_cases hlt : k < R
  ·have hki : (k : Int) < (R : Int) := by omega
   have x3 := (Hc3.out.below HI.out.2 Hc3.out.lt).cell 3
   simp [NetM.cells, HN.out] at x3
   have HJ0 : Hid ((∃ Bv y, Live W2.heap.size W3.heap.size N (((x.eng.comes n.net).rounds n.net k).ticks n.net 0) Bv y wr) ∧ Below W2.heap.size W2 wr) := HI
   go_wp2_with fail
   go_loopw [10, 34] (fun _ q wr => ∃ j : Nat, j ≤ N ∧ q = .int .i64 j ∧ Hid ((∃ Bv y, Live W2.heap.size W3.heap.size N (((x.eng.comes n.net).rounds n.net k).ticks n.net j) Bv y wr) ∧ Below W2.heap.size W2 wr)) (fun _ q _ => N - (intOf q).toNat)
   case atStart => exact ⟨0, Nat.zero_le _, rfl, HJ0⟩
   case round =>
    obtain ⟨j, hj, rfl, HJ⟩ := hrel
    have cb := Hc3.out.below HJ.out.2 Hc3.out.lt
    have z0 := cb.cell 0
    have z1 := cb.cell 1
    have z2 := cb.cell 2
    have z3 := cb.cell 3
    have z4 := cb.cell 4
    simp [NetM.cells, Mat.val, HN.out] at z0 z1 z2 z3 z4
    obtain ⟨⟨Bj, yj, hlj⟩, hbj⟩ := HJ.out
    have hfj := (Hfr.out k).1.ticks g (Hfr.out k).2 j (by rw [HNN.out]; exact hj)
    by_cases hlj2 : j < N
    ·have hji : (j : Int) < (N : Int) := by omega
     have hroom : (((x.eng.comes n.net).rounds n.net k).ticks n.net j).bag.length + (n.net.hearers j).length ≤ 120 := by
      have h1 := Eng.ticks_bag (n := n.net) ((x.eng.comes n.net).rounds n.net k) j
      have h2 := n.net.hearers_le j
      have h3 := Net.ticks_room g (k := j) (by rw [HNN.out]; exact hj)
      rw [(Hfr.out k).2] at h1
      have h4 := HNN.out
      simp at h1
      omega
     have HT := hide (HTk.out j _ Bj yj _ hbj hlj hfj hlj2 hroom)
     have Hbj := hide hbj
     clear cb hlj hfj hbj hroom HJ HJ0 HI
     go_wp2_with fail
     go_at_call 41
     refine HT.out.mono ?_
     rintro r w6 ⟨rfl, hl6, hb6⟩
     have HJ2 : Hid ((∃ Bv y, Live W2.heap.size W3.heap.size N (((x.eng.comes n.net).rounds n.net k).ticks n.net (j + 1)) Bv y w6) ∧ Below W2.heap.size W2 w6) := hide ⟨hl6, Hbj.out.trans hb6⟩
     clear hl6 hb6 HT Hbj
     go_wp2
     go_roundw
     case rel =>
      first
      | exact ⟨j + 1, by omega, by go_num, HJ2⟩
      | ((repeat apply Exists.intro); refine ⟨?_, rfl⟩; exact ⟨j + 1, by omega, by go_num, HJ2⟩)
     case measure => simp [intOf]; omega
    ·have hjn : j = N := by omega
     subst hjn
     have HD := hide (HDA.out _ Bj yj _ hbj hlj hfj)
     have Hbj := hide hbj
     clear cb hlj hfj hbj HJ HJ0 HI
     go_wp2_with fail
     go_at_call 40
     refine HD.out.mono ?_
     rintro r w6 ⟨rfl, hl6, hb6⟩
     have HI2 : Hid ((∃ Bv y, Live W2.heap.size W3.heap.size j ((x.eng.comes n.net).rounds n.net (k + 1)) Bv y w6) ∧ Below W2.heap.size W2 w6) := hide ⟨by
      have he : ((x.eng.comes n.net).rounds n.net (k + 1)) = (((x.eng.comes n.net).rounds n.net k).ticks n.net j).comes n.net := by
       show ((x.eng.comes n.net).rounds n.net k).round n.net = _
       unfold Eng.round
       rw [HNN.out]
      rw [he]; exact hl6, Hbj.out.trans hb6⟩
     clear hl6 hb6 HD Hbj
     go_wp2
     go_roundw
     case rel =>
      first
      | exact ⟨k + 1, by omega, by go_num, HI2⟩
      | ((repeat apply Exists.intro); refine ⟨?_, rfl⟩; exact ⟨k + 1, by omega, by go_num, HI2⟩)
     case measure => simp [intOf]; omega
  ·have hkn : k = R := by omega
   subst hkn
   obtain ⟨⟨Bv5, y5, hl5⟩, hb5⟩ := HI.out
   have hfit2 := (Hfr.out k).1
   have c6 := Hc6.out.below hb5 Hc6.out.lt
   have hw5 := HB2.out.trans (hb5.mono HB2.out.size)
   have s0 := c6.cell 0
   have s1 := c6.cell 1
   have f0 := c6.frozen 0
   have f1 := c6.frozen 1
   obtain ⟨ba5, bc5, hBv5⟩ := own_form hl5.bag
   have p0 := hl5.head.cell 0
   have p1 := hl5.head.cell 1
   have c7 := (c6.set 0 (.slice (some ⟨y5.G, 0, none⟩) N y5.gc)).set 1 Bv5
   have e0 := c7.cell 0
   have e1 := c7.cell 1
   simp at s0 s1 p0 p1 e0 e1
   have hl6 := hl5.setRes hN0 Hc6.out.lt c6 (.slice (some ⟨y5.G, 0, none⟩) N y5.gc) Bv5
   obtain ⟨m, hmc, hmin, hme, hm1, hm2, hm3, hm4, hm5, _, hm7⟩ := hl6.outF hN0 hN6 hfit2.many (fun m hm => (hfit2.mail m hm).2.2)
   have hmr : m.err n.net = 0 := EngM.of_right ⟨Hchk.out, hm1, hm2, hm3, fun i hi q hq => by rw [hme]; exact hm4 i hi q hq, by rw [hm5]; exact hfit2.many, by rw [hme]; exact hfit2⟩ (by have h3 : n.net.nodes = n.nodes := rfl; rw [h3]; exact HN.out)
   have HF : Hid (CalmAns n.net x k w (.returned (.tuple #[.agg #[.slice (some ⟨y5.G, 0, none⟩) N y5.gc, Bv5], .int .i64 0])) ((wr.setCell ⟨w.heap.size + 1 + 1, 0, none⟩ (.slice (some ⟨y5.G, 0, none⟩) N y5.gc)).setCell ⟨w.heap.size + 1 + 1, 1, none⟩ Bv5)) := hide ⟨(hw5.setCell (p := ⟨w.heap.size + 1 + 1, 0, none⟩) (by show w.heap.size ≤ w.heap.size + 1 + 1; omega) _).setCell (p := ⟨w.heap.size + 1 + 1, 1, none⟩) (by show w.heap.size ≤ w.heap.size + 1 + 1; omega) _, Or.inr (Or.inr ⟨Hck.out, by omega, m, by rw [EngM.val, hmc], hmin, hme, hmr, hm7⟩)⟩
   rw [hBv5] at p1 e0 e1 HF
   generalize ((x.eng.comes n.net).rounds n.net k).bag.length = bl at *
   clear c6 c7 hw5 hl5 hb5 hl6 hmc hmin hme hm1 hm2 hm3 hm4 hm5 hm7 hmr hfit2 hBv5 HI hlt
   go_wp2
   exact bodyPost_ret (v := .tuple #[.agg #[.slice (some ⟨y5.G, 0, none⟩) N y5.gc, .slice ba5 bl bc5], .int .i64 0]) (by simp [results, Tryz.results15, go_sem, e0, e1]) rfl HF.out

end Go.Proofs.YtjhkadffaephmabGreat

/-
  signpostlaw.engineIs; Play and Calm, as one answer each.
-/
namespace Go.Proofs.YtjhkadffaephmabGreat
set_option maxRecDepth 100000
open Go.RowKit

set_option maxHeartbeats 2000000 in
theorem engineIs_same (x z : EngM) (w : World) (hx : x.In w.heap.size w) (hz : z.In w.heap.size w) (hs : x.Same z) :
    Calls Tryz.prog 13 #[x.val, .int .i64 0, .int .i64 0, z.val] w fun r w' => r = .returned (.bool true) ∧ Below w.heap.size w w' := by
  obtain ⟨W1, hW1⟩ : ∃ W1, W1 = (w.alloc (.cells x.cells 31)).alloc (.cells z.cells 31) := ⟨_, rfl⟩
  have hB : Below w.heap.size w W1 := by rw [hW1]; exact ((Below.refl _ w).alloc (Nat.le_refl _) _).alloc (by simp) _
  have HC := hide (sameEngine_yes x z W1 (hx.grown hB) (hz.grown hB) hs)
  have HB := hide hB
  simp only [EngM.val, EngM.cells] at HC hW1 ⊢
  rw [hW1] at HC
  have HW1 := hide hW1
  clear hx hz hs hB hW1
  go_enter Tryz.func13, Tryz.ntmps13
  go_wp2_with fail
  go_at_call 39
  refine HC.out.mono ?_
  rw [← HW1.out]
  rintro r W2 ⟨rfl, hb⟩
  have HF := hide (HB.out.trans (hb.mono HB.out.size))
  clear hb HC
  go_wp2
  go_ret
  exact ⟨rfl, HF.out⟩

set_option maxHeartbeats 2000000 in
theorem engineIs_none (e : Int) (z : EngM) (w : World) (he : e ≠ 0) :
    Calls Tryz.prog 13 #[zeroEng, .int .i64 e, .int .i64 e, z.val] w fun r w' => r = .returned (.bool true) ∧ Below w.heap.size w w' := by
  obtain ⟨W1, hW1⟩ : ∃ W1, W1 = (w.alloc (.cells #[.slice none 0 0, .slice none 0 0] 31)).alloc (.cells #[.slice none 0 0, .slice none 0 0] 31) := ⟨_, rfl⟩
  have hB : Below w.heap.size w W1 := by rw [hW1]; exact ((Below.refl _ w).alloc (Nat.le_refl _) _).alloc (by simp) _
  have HC := hide (sameEngine_yes zeroM zeroM W1 (zeroM_in _ _) (zeroM_in _ _) ⟨rfl, fun _ h => absurd h (Nat.not_lt_zero _), fun _ h => absurd h (Nat.not_lt_zero _), rfl, fun _ h => absurd h (Nat.not_lt_zero _)⟩)
  have HB := hide hB
  have hzv : zeroM.val = .agg #[.slice none 0 0, .slice none 0 0] := rfl
  rw [hzv] at HC
  rw [hW1] at HC
  have HW1 := hide hW1
  have he' : (e == 0) = false := by simpa using he
  show Calls Tryz.prog 13 #[.agg #[.slice none 0 0, .slice none 0 0], .int .i64 e, .int .i64 e, .agg #[.slice z.rs.ga z.rs.gn z.rs.gc, .slice z.bag.ba z.bag.bn z.bag.bc]] w _
  clear hB hW1 hzv
  go_enter Tryz.func13, Tryz.ntmps13
  go_wp2_with fail
  go_at_call 39
  refine HC.out.mono ?_
  rw [← HW1.out]
  rintro r W2 ⟨rfl, hb⟩
  have HF := hide (HB.out.trans (hb.mono HB.out.size))
  clear hb HC
  go_wp2
  go_ret
  exact ⟨rfl, HF.out⟩

def playU (x : EngM) (n : Net) (en : Nat) : Int := if x.err n ≠ 0 then x.err n else if 300 < en then 2 else 0
def calmU (x : EngM) (n : Net) (rd : Int) : Int := if x.err n ≠ 0 then x.err n else if rd < 0 ∨ 100 < rd then 3 else 0
/-- Play. -/
theorem play_all (n : NetM) (x : EngM) (l : EvsM) (w : World) (h : n.In w.heap.size w) (hx : x.In w.heap.size w) (hl : l.In w.heap.size w) :
    Calls Tryz.prog 14 #[n.val, x.val, .slice l.ea l.en l.ec] w fun r w' => (∃ m : EngM, r = .returned (.tuple #[m.val, .int .i64 (if playU x n.net l.en = 0 then ((Eng.play n.net x.eng l.evs).2 : Int) else 0), .int .i64 (playU x n.net l.en)]) ∧ m.In w'.heap.size w' ∧ (playU x n.net l.en = 0 → m.err n.net = 0 ∧ m.eng = (Eng.play n.net x.eng l.evs).1) ∧ (playU x n.net l.en ≠ 0 → m = zeroM)) ∧ Below w.heap.size w w' := by
  refine (play_any n x l w h hx hl).mono ?_
  have hlen := EvsM.evs_len l
  rintro r w' ⟨hb, ⟨h1, h2⟩ | ⟨h1, h2, h3⟩ | ⟨h1, h2, m, h3, h4, h5, h6⟩⟩
  · have e : playU x n.net l.en = x.err n.net := by unfold playU; rw [if_pos h1]
    rw [e]
    exact ⟨⟨zeroM, by rw [if_neg h1]; exact h2, zeroM_in _ _, fun h0 => absurd h0 h1, fun _ => rfl⟩, hb⟩
  · have e : playU x n.net l.en = 2 := by unfold playU; rw [if_neg (by omega), if_pos (by omega)]
    rw [e]
    exact ⟨⟨zeroM, by rw [if_neg (by decide)]; exact h3, zeroM_in _ _, fun h0 => absurd h0 (by decide), fun _ => rfl⟩, hb⟩
  · have e : playU x n.net l.en = 0 := by unfold playU; rw [if_neg (by omega), if_neg (by omega)]
    rw [e]
    exact ⟨⟨m, by rw [if_pos rfl]; exact h3, h4, fun _ => ⟨h6, h5⟩, fun h0 => absurd rfl h0⟩, hb⟩
/-- Calm. -/
theorem calm_all (n : NetM) (x : EngM) (rd : Int) (w : World) (h : n.In w.heap.size w) (hx : x.In w.heap.size w) :
    Calls Tryz.prog 15 #[n.val, x.val, .int .i64 rd] w fun r w' => (∃ m : EngM, r = .returned (.tuple #[m.val, .int .i64 (calmU x n.net rd)]) ∧ m.In w'.heap.size w' ∧ (calmU x n.net rd = 0 → m.err n.net = 0 ∧ m.eng = x.eng.calm n.net rd.toNat) ∧ (calmU x n.net rd ≠ 0 → m = zeroM)) ∧ Below w.heap.size w w' := by
  refine (calm_any n x rd w h hx).mono ?_
  rintro r w' ⟨hb, ⟨h1, h2⟩ | ⟨h1, h2, h3⟩ | ⟨h1, h2, m, h3, h4, h5, h6, _⟩⟩
  · have e : calmU x n.net rd = x.err n.net := by unfold calmU; rw [if_pos h1]
    rw [e]
    exact ⟨⟨zeroM, h2, zeroM_in _ _, fun h0 => absurd h0 h1, fun _ => rfl⟩, hb⟩
  · have e : calmU x n.net rd = 3 := by unfold calmU; rw [if_neg (by omega), if_pos h2]
    rw [e]
    exact ⟨⟨zeroM, h3, zeroM_in _ _, fun h0 => absurd h0 (by decide), fun _ => rfl⟩, hb⟩
  · have e : calmU x n.net rd = 0 := by unfold calmU; rw [if_neg (by omega), if_neg h2]
    rw [e]
    exact ⟨⟨m, h3, h4, fun _ => ⟨h6, h5⟩, fun h0 => absurd rfl h0⟩, hb⟩

end Go.Proofs.YtjhkadffaephmabGreat

/-
  signpostlaw.two, netBegun.
-/
namespace Go.Proofs.YtjhkadffaephmabGreat
set_option maxRecDepth 100000
open Go.RowKit

theorem Net.begin_state {n : Net} (hc : n.check = 0) : n.State n.begin := fun i j _ _ => by
  have lo := (Net.good_of_check hc).law.good.lo
  unfold Net.begin
  split <;> omega

/-- The net of two nodes. -/
def twoNet : Net := ⟨⟨3, hopsB, hopsE⟩, 2, 2, fun i => i, fun i => 1 - i, fun _ => 0⟩
def twoM (b l : Nat) : NetM := ⟨hopsM b, 2, some ⟨l, 0, none⟩, 2, 2, l, 0, fun i => i, fun i => 1 - i, fun _ => 0⟩
theorem two_check : twoNet.check = 0 := by decide +kernel
set_option maxHeartbeats 2000000 in
theorem two_any (w : World) :
    Calls Tryz.prog 37 #[] w fun e w' => (∃ n : NetM, e = .returned n.val ∧ n.net = twoNet ∧ n.In w'.heap.size w') ∧ Below w.heap.size w w' := by
  have hB0 : Below w.heap.size w (w.alloc (.cells #[.int .i64 0, .slice none 0 0, .slice none 0 0, .int .i64 0, .slice none 0 0] 27)) := (Below.refl _ w).alloc (Nat.le_refl _) _
  have b0 := Blk.new w #[.int .i64 0, .slice none 0 0, .slice none 0 0, .int .i64 0, .slice none 0 0] 27
  go_enter Tryz.func37, Tryz.ntmps37
  go_wp2_with fail
  go_at_call 67
  refine (hops_any _).mono ?_
  rintro e w1 ⟨rfl, hI, hb1⟩
  have hs0 : (w.alloc (.cells #[.int .i64 0, .slice none 0 0, .slice none 0 0, .int .i64 0, .slice none 0 0] 27)).heap.size = w.heap.size + 1 := by simp
  rw [hs0] at hI hb1 ⊢
  have hB1 := hB0.trans (hb1.mono (by omega))
  have b1 := b0.below hb1 (by omega)
  have hs1 := hb1.size
  have bL := Blk.new w1 #[.int .i64 0, .int .i64 1, .int .i64 0, .int .i64 1, .int .i64 0, .int .i64 0] 65
  have hB2 := hB1.alloc hB1.size (.cells #[.int .i64 0, .int .i64 1, .int .i64 0, .int .i64 1, .int .i64 0, .int .i64 0] 65)
  have b2 := b1.alloc (.cells #[.int .i64 0, .int .i64 1, .int .i64 0, .int .i64 1, .int .i64 0, .int .i64 0] 65)
  have d0 := b2.cell 0
  have d1 := b2.cell 1
  have d2 := b2.cell 2
  have d3 := b2.cell 3
  have d4 := b2.cell 4
  have fR := b2.frozen
  simp at d0 d1 d2 d3 d4
  have hI2 := (hI.below ((Below.refl _ w1).alloc (Nat.le_refl _) (.cells #[.int .i64 0, .int .i64 1, .int .i64 0, .int .i64 1, .int .i64 0, .int .i64 0] 65)) (Nat.le_refl _))
  simp only [hopsM, AlgM.val, Mat.val, hopsBM, hopsEM, hopsB, hopsE]
  go_wp2
  have b5 := b2.set5 (.int .i64 3) (.slice (some ⟨w.heap.size + 1 + 4, 0, none⟩) 3 3) (.slice (some ⟨w.heap.size + 1 + 6, 0, none⟩) 1 1) (.int .i64 2) (.slice (some ⟨w1.heap.size, 0, none⟩) 2 2)
  have e0 := b5.cell 0
  have e1 := b5.cell 1
  have e2 := b5.cell 2
  have e3 := b5.cell 3
  have e4 := b5.cell 4
  unfold YtjhkadffaephmabGreat.set5 at e0 e1 e2 e3 e4
  simp at e0 e1 e2 e3 e4
  have hfB : (hopsBM (w.heap.size + 1)).From (w.heap.size + 1) := ⟨fun _ => by show w.heap.size + 1 ≤ w.heap.size + 1 + 4; omega, fun r _ _ => by show w.heap.size + 1 ≤ w.heap.size + 1 + 1 + r; omega⟩
  have hfE : (hopsEM (w.heap.size + 1)).From (w.heap.size + 1) := ⟨fun _ => by show w.heap.size + 1 ≤ w.heap.size + 1 + 6; omega, fun r _ _ => by show w.heap.size + 1 ≤ w.heap.size + 1 + 5; omega⟩
  have hl : w.heap.size < w1.heap.size := by omega
  have bL5 := ((((bL.other (show w1.heap.size ≠ w.heap.size by omega) 0 (.int .i64 3)).other (show w1.heap.size ≠ w.heap.size by omega) 1 (.slice (some ⟨w.heap.size + 1 + 4, 0, none⟩) 3 3)).other (show w1.heap.size ≠ w.heap.size by omega) 2 (.slice (some ⟨w.heap.size + 1 + 6, 0, none⟩) 1 1)).other (show w1.heap.size ≠ w.heap.size by omega) 3 (.int .i64 2)).other (show w1.heap.size ≠ w.heap.size by omega) 4 (.slice (some ⟨w1.heap.size, 0, none⟩) 2 2)
  refine bodyPost_ret (v := (twoM (w.heap.size + 1) w1.heap.size).val) (by simp [results, Tryz.results37, go_sem, e0, e1, e2, e3, e4, twoM, NetM.val, NetM.cells, hopsM, Mat.val, hopsBM, hopsEM, hopsB, hopsE]) rfl ⟨⟨twoM (w.heap.size + 1) w1.heap.size, rfl, rfl, ?_⟩, below5 hB2 (Nat.le_refl _) _ _ _ _ _⟩
  refine ⟨⟨?_, ?_⟩, fun _ => rfl, fun _ => by show w1.heap.size < _; simp, ?_, ?_, ?_, by show 2 ≤ maxLen; unfold maxLen; omega⟩
  · refine Mat.In.mono (k := _) (n := w1.heap.size) ?_ (by simp)
    exact ((((hI2.B.other hfB (by omega) _).other hfB (by omega) _).other hfB (by omega) _).other hfB (by omega) _).other hfB (by omega) _
  · refine Mat.In.mono (k := _) (n := w1.heap.size) ?_ (by simp)
    exact ((((hI2.E.other hfE (by omega) _).other hfE (by omega) _).other hfE (by omega) _).other hfE (by omega) _).other hfE (by omega) _
  · intro i hi
    have hi' : i < 2 := hi
    match i, hi' with
    | 0, _ => exact bL5.cell 0
    | 1, _ => exact bL5.cell 3
  · intro i hi
    have hi' : i < 2 := hi
    match i, hi' with
    | 0, _ => exact bL5.cell 1
    | 1, _ => exact bL5.cell 4
  · intro i hi
    have hi' : i < 2 := hi
    match i, hi' with
    | 0, _ => exact bL5.cell 2
    | 1, _ => exact bL5.cell 5

end Go.Proofs.YtjhkadffaephmabGreat

/-
  signpostlaw.NetAlways: the walk.
-/
namespace Go.Proofs.YtjhkadffaephmabGreat
set_option maxRecDepth 100000
open Go.RowKit

/-- No state at all. -/
def nilM : Mat := ⟨none, 0, 0, 0, fun _ => none, fun _ => 0, fun _ => 0, fun _ => 0, ⟨0, fun _ => 0, fun _ _ => 0⟩⟩
theorem nilM_in (k : Nat) (w : World) : nilM.In k w where
  ga := fun h => absurd h (Nat.not_lt_zero _)
  gb := fun h => absurd h (Nat.not_lt_zero _)
  row := fun _ h => absurd h (Nat.not_lt_zero _)
  addr := fun _ h => absurd h (Nat.not_lt_zero _)
  cell := fun _ h => absurd h (Nat.not_lt_zero _)
  len := Nat.zero_le _
  lens := fun _ h => absurd h (Nat.not_lt_zero _)
theorem nilM_from (k : Nat) : nilM.From k := ⟨fun h => absurd h (Nat.not_lt_zero _), fun _ h => absurd h (Nat.not_lt_zero _)⟩

/-- What a call that answers a state and an error answers. -/
structure StateAns (N lo : Nat) (Z : Nat → Nat → Int) (E : Int) (m : Mat) (W : World) : Prop where
  mem : m.In W.heap.size W
  own : m.From lo
  ok : E = 0 → m.t = ⟨N, fun _ => N, Z⟩
  bad : E ≠ 0 → m.t.len = 0

theorem netBegin_any (n : NetM) (w : World) (h : n.In w.heap.size w) :
    Calls Tryz.prog 20 #[n.val] w fun e w' => (∃ m : Mat, e = .returned (.tuple #[m.val, .int .i64 n.net.check]) ∧ StateAns n.net.N w.heap.size n.net.begin n.net.check m w') ∧ Below w.heap.size w w' := by
  by_cases hE : n.net.check = 0
  · refine (netBegin_ok n w h hE).mono ?_
    rintro e w' ⟨⟨m, rfl, hm⟩, hb⟩
    rw [hE]
    exact ⟨⟨m, rfl, hm.2.1, hm.2.2, fun _ => hm.1, fun h => absurd rfl h⟩, hb⟩
  · refine (netBegin_bad n w h hE).mono ?_
    rintro e w' ⟨rfl, hb⟩
    exact ⟨⟨nilM, rfl, nilM_in _ _, nilM_from _, fun h => absurd h hE, fun _ => rfl⟩, hb⟩

end Go.Proofs.YtjhkadffaephmabGreat

/-
 engine.New.
-/
namespace Go.Proofs.YtjhkadffaephmabGreat
set_option maxRecDepth 100000
open Go.RowKit

/-- What stands while an engine is new: so many routers. -/
structure NewI (W2 : World) (N : Nat) (m : Mat) (ob G : Nat) (vs : Array Value) (Tb : Nat → Nat) (k : Nat) (W : World) : Prop where
 below : Below W2.heap.size W2 W
 out : Blk W ob #[.slice (some ⟨G, 0, none⟩) N N, .slice none 0 0] 31
 rtrs : Blk W G vs 59
 size : vs.size = N * 2
 r0 : ∀ i, i < k → vs[i * 2]? = some (.slice (m.A i) N (m.C i))
 r1 : ∀ i, i < k → vs[i * 2 + 1]? = some (.slice (some ⟨Tb i, 0, none⟩) N N)
 tb : ∀ i, i < k → Blk W (Tb i) (madeCells #[.slice none 0 0] N) 32 ∧ Tb i ≠ G
 lo : W2.heap.size ≤ G ∧ W2.heap.size ≤ ob ∧ G ≠ ob
theorem NewI.keep {W2 : World} {N : Nat} {m : Mat} {ob G : Nat} {vs : Array Value} {Tb : Nat → Nat} {k : Nat} {W W' : World} (h : NewI W2 N m ob G vs Tb k W) (hb : Below W.heap.size W W') : NewI W2 N m ob G vs Tb k W' :=
 ⟨h.below.trans (hb.mono h.below.size), h.out.below hb h.out.lt, h.rtrs.below hb h.rtrs.lt, h.size, h.r0, h.r1, fun i hi => ⟨(h.tb i hi).1.below hb (h.tb i hi).1.lt, (h.tb i hi).2⟩, h.lo⟩
theorem NewI.put {W2 : World} {N : Nat} {m : Mat} {ob G : Nat} {vs : Array Value} {Tb : Nat → Nat} {k : Nat} {W : World} (h : NewI W2 N m ob G vs Tb k W) (hk : k < N) {T : Nat} (hT : Blk W T (madeCells #[.slice none 0 0] N) 32) (hTG : T ≠ G) :
  ∃ vs' Tb', NewI W2 N m ob G vs' Tb' (k + 1) ((W.setCell ⟨G, k * 2, none⟩ (.slice (m.A k) N (m.C k))).setCell ⟨G, k * 2 + 1, none⟩ (.slice (some ⟨T, 0, none⟩) N N)) := by
 have hsz := h.size
 refine ⟨_, fun r => if r = k then T else Tb r, (h.below.setCell (p := ⟨G, k * 2, none⟩) h.lo.1 _).setCell (p := ⟨G, k * 2 + 1, none⟩) h.lo.1 _, (h.out.other (Ne.symm h.lo.2.2) _ _).other (Ne.symm h.lo.2.2) _ _, (h.rtrs.set _ _).set _ _, by simpa using hsz, fun i hi => ?_, fun i hi => ?_, fun i hi => ?_, h.lo⟩
 ·rw [Array.getElem?_setIfInBounds_ne (by omega)]
  by_cases e : i = k
  ·subst e; rw [Array.getElem?_setIfInBounds_self_of_lt (by omega)]
  ·rw [Array.getElem?_setIfInBounds_ne (by omega)]; exact h.r0 i (by omega)
 ·by_cases e : i = k
  ·subst e
   simp only [if_true]
   rw [Array.getElem?_setIfInBounds_self_of_lt (by simp; omega)]
  ·simp only [if_neg e]
   rw [Array.getElem?_setIfInBounds_ne (by omega), Array.getElem?_setIfInBounds_ne (by omega)]
   exact h.r1 i (by omega)
 ·by_cases e : i = k
  ·subst e
   simp only [if_true]
   exact ⟨(hT.other hTG _ _).other hTG _ _, hTG⟩
  ·simp only [if_neg e]
   obtain ⟨h1, h2⟩ := h.tb i (by omega)
   exact ⟨(h1.other h2 _ _).other h2 _ _, h2⟩

/-- What New makes, as an engine that lies in memory. -/
theorem new_eng {N : Nat} {n : Net} {m : Mat} {G : Nat} {vs : Array Value} {Tb : Nat → Nat} {W : World} (hrt : Blk W G vs 59) (hr0 : ∀ i, i < N → vs[i * 2]? = some (.slice (m.A i) N (m.C i))) (hr1 : ∀ i, i < N → vs[i * 2 + 1]? = some (.slice (some ⟨Tb i, 0, none⟩) N N)) (htb : ∀ i, i < N → Blk W (Tb i) (madeCells #[.slice none 0 0] N) 32) (hmi : m.In W.heap.size W) (ht : m.t = ⟨N, fun _ => N, n.begin⟩) (hck : n.check = 0) (hN : n.nodes = (N : Int)) (hN6 : N ≤ 6) :
  ∃ x : EngM, x.cells = #[.slice (some ⟨G, 0, none⟩) N N, .slice none 0 0] ∧ x.In W.heap.size W ∧ x.err n = 0 ∧ x.eng = ⟨n.begin, fun _ _ => false, fun _ _ _ => 0, []⟩ := by
 have g := Net.good_of_check hck
 have hNN : n.N = N := by unfold Net.N; omega
 have hlen : m.t.len = N := by rw [ht]
 have hL : ∀ r, m.t.L r = N := fun r => by rw [ht]
 have hZ : m.t.Z = n.begin := by rw [ht]
 obtain ⟨x, hx⟩ : ∃ x : EngM, x = ⟨⟨some ⟨G, 0, none⟩, N, N, G, 0, fun i => ⟨m.A i, N, m.C i, m.RB i, m.RO i, n.begin i, ⟨some ⟨Tb i, 0, none⟩, Tb i, 0, N, fun _ => none, fun _ => 0, fun _ => 0, fun _ => 0, ⟨N, fun _ => 0, fun _ _ => 0⟩⟩⟩⟩, ⟨none, 0, 0, 0, 0, fun _ => noMail⟩⟩ := ⟨_, rfl⟩
 have heng : x.eng = ⟨n.begin, fun _ _ => false, fun _ _ _ => 0, []⟩ := by rw [hx]; rfl
 have hin : x.In W.heap.size W := by
  rw [hx]
  refine ⟨⟨fun _ => rfl, fun _ => hrt.lt, fun i hi => ?_, fun i hi => ?_, fun i hi => ?_, by show N ≤ _; unfold maxLen; omega⟩, ⟨fun h0 => absurd h0 (Nat.lt_irrefl _), fun h0 => absurd h0 (Nat.lt_irrefl _), fun i hi => absurd hi (Nat.not_lt_zero _), fun i hi => absurd hi (Nat.not_lt_zero _), fun i hi => absurd hi (Nat.not_lt_zero _), Nat.zero_le _, fun i hi => absurd hi (Nat.not_lt_zero _)⟩⟩
  ·show W.cell? ⟨G, 0 + i * 2, none⟩ = _
   rw [Nat.zero_add, hrt.cell]; exact hr0 i hi
  ·show W.cell? ⟨G, 0 + i * 2 + 1, none⟩ = _
   rw [Nat.zero_add, hrt.cell]; exact hr1 i hi
  ·have hi' : i < N := hi
   have hii := hmi.ints (r := i) (by omega)
   rw [hL i, hZ] at hii
   refine ⟨hii, fun h0 => (hmi.addr i (by omega) (by rw [hL i]; exact h0)).2, ⟨fun _ => rfl, fun _ => (htb i hi').lt, fun r hr => ?_, fun r hr h0 => absurd h0 (Nat.lt_irrefl _), fun r hr c hc => absurd hc (Nat.not_lt_zero _), by show N ≤ _; unfold maxLen; omega, fun r hr => Nat.zero_le _⟩⟩
   show W.cell? ⟨Tb i, 0 + r, none⟩ = _
   rw [Nat.zero_add, (htb i hi').cell]; exact made_nil hr
 refine ⟨x, by rw [hx]; rfl, hin, EngM.of_right (N := N) ⟨hck, by rw [hx], fun i hi => by rw [hx], fun i hi => by rw [hx], fun i hi q hq => by rw [heng, hx]; rfl, by rw [hx]; exact Nat.zero_le _, ?_⟩ hN, heng⟩
 rw [heng]
 have hb : n.State n.begin := n.begin_state hck
 exact ⟨hb, fun i k j _ _ _ ht => (absurd (show false = true from ht) (by decide)), Nat.zero_le _, fun m hm => absurd hm List.not_mem_nil⟩

/-- What New answers. -/
def NewAns (n : Net) (w : World) (r : Ending) (w' : World) : Prop :=
 Below w.heap.size w w' ∧
 ((n.check ≠ 0 ∧ r = .returned (.tuple #[zeroEng, .int .i64 n.check])) ∨
  (n.check = 0 ∧ ∃ m : EngM, r = .returned (.tuple #[m.val, .int .i64 0]) ∧ m.In w'.heap.size w' ∧ m.err n = 0 ∧ m.eng = ⟨n.begin, fun _ _ => false, fun _ _ _ => 0, []⟩))

structure NewG (W2 : World) (N : Nat) (n : NetM) (m : Mat) (b1 ob G : Nat) (vs : Array Value) (Tb : Nat → Nat) (k : Nat) (w4 W : World) : Prop where
 inv : NewI W2 N m ob G vs Tb k W
 net : Blk W b1 n.cells 27
 below : Below w4.heap.size w4 W
theorem NewG.keep {W2 : World} {N : Nat} {n : NetM} {m : Mat} {b1 ob G : Nat} {vs : Array Value} {Tb : Nat → Nat} {k : Nat} {w4 W W' : World} (h : NewG W2 N n m b1 ob G vs Tb k w4 W) (hb : Below W.heap.size W W') : NewG W2 N n m b1 ob G vs Tb k w4 W' := ⟨h.inv.keep hb, h.net.below hb h.net.lt, h.below.trans (hb.mono h.below.size)⟩
def newV (vs : List Value) (N : Nat) (a : Option Addr) (c : Nat) (w4 : World) (k : Nat) (v : Value) (W : World) : Prop :=
 if k = 5 then ∃ T : Nat, v = .agg #[.slice a N c, .slice (some ⟨T, 0, none⟩) N N] ∧ w4.heap.size ≤ T ∧ Blk W T (madeCells #[.slice none 0 0] N) 32
 else vs[k]? = some v
theorem newV_keep {vs : List Value} {N : Nat} {a : Option Addr} {c : Nat} {w4 : World} {k : Nat} {v : Value} {W W' : World} (hb : Below W.heap.size W W') (h : newV vs N a c w4 k v W) : newV vs N a c w4 k v W' := by
 unfold newV at h ⊢
 by_cases h5 : k = 5
 ·rw [if_pos h5] at h ⊢
  obtain ⟨T, h1, h2, h3⟩ := h
  exact ⟨T, h1, h2, h3.below hb h3.lt⟩
 rw [if_neg h5] at h ⊢
 exact h
theorem newV_get {vs : List Value} {N : Nat} {a : Option Addr} {c : Nat} {w4 : World} {k : Nat} {v u : Value} {W : World} (h : newV vs N a c w4 k v W) (hk : k ≠ 5) (hu : vs[k]? = some u) : v = u := by
 unfold newV at h
 rw [if_neg hk, hu] at h
 exact (Option.some.inj h).symm

set_option maxHeartbeats 4000000 in
theorem new_any (n : NetM) (w : World) (h : n.In w.heap.size w) :
  Calls Tryz.prog 6 #[n.val] w fun r w' => NewAns n.net w r w' := by
 obtain ⟨W1, hW1⟩ : ∃ W1, W1 = (w.alloc (.cells n.cells 27)).alloc (.cells #[.slice none 0 0, .slice none 0 0] 31) := ⟨_, rfl⟩
 have hB1 : Below w.heap.size w W1 := by rw [hW1]; exact ((Below.refl _ w).alloc (Nat.le_refl _) _).alloc (by simp) _
 have b1 : Blk W1 w.heap.size n.cells 27 := by rw [hW1]; exact (Blk.new w _ _).alloc _
 have b2 : Blk W1 (w.heap.size + 1) #[.slice none 0 0, .slice none 0 0] 31 := by rw [hW1]; exact Blk.new' (by simp)
 have HBe := hide (netBegin_any n W1 (h.grown hB1))
 have HB1 := hide hB1
 have Hb1 := hide b1
 have Hb2 := hide b2
 simp only [NetM.val, NetM.cells, Mat.val] at hW1 HBe ⊢
 rw [hW1] at HBe
 have HW1 := hide hW1
 clear h hB1 b1 b2 hW1
 go_enter Tryz.func6, Tryz.ntmps6
 go_wp2_with fail
 go_at_call 20
 refine HBe.out.mono ?_
 rw [← HW1.out]
 rintro r W2 ⟨⟨m, rfl, hm⟩, hb2⟩
 have c2 := Hb2.out.below hb2 Hb2.out.lt
 have c1 := Hb1.out.below hb2 Hb1.out.lt
 have HB2 := hide (HB1.out.trans (hb2.mono HB1.out.size))
 by_cases hck : n.net.check = 0
 rotate_left
 ·have s0 := c2.cell 0
  have s1 := c2.cell 1
  have f0 := c2.frozen 0
  have f1 := c2.frozen 1
  have c7 := (c2.set 0 (.slice none 0 0)).set 1 (.slice none 0 0)
  have e0 := c7.cell 0
  have e1 := c7.cell 1
  simp at s0 s1 e0 e1
  have hne : (n.net.check == 0) = false := by simpa using hck
  have HF : Hid (NewAns n.net w (.returned (.tuple #[.agg #[.slice none 0 0, .slice none 0 0], .int .i64 n.net.check])) ((W2.setCell ⟨w.heap.size + 1, 0, none⟩ (.slice none 0 0)).setCell ⟨w.heap.size + 1, 1, none⟩ (.slice none 0 0))) := hide ⟨(HB2.out.setCell (p := ⟨w.heap.size + 1, 0, none⟩) (by show w.heap.size ≤ w.heap.size + 1; omega) _).setCell (p := ⟨w.heap.size + 1, 1, none⟩) (by show w.heap.size ≤ w.heap.size + 1; omega) _, Or.inl ⟨hck, rfl⟩⟩
  generalize n.net.check = er at *
  clear c2 c1 c7 hb2 HBe hck hm
  go_wp2
  exact bodyPost_ret (v := .tuple #[.agg #[.slice none 0 0, .slice none 0 0], .int .i64 er]) (by simp [results, Tryz.results6, go_sem, e0, e1]) rfl HF.out
 obtain ⟨N, hN⟩ : ∃ N : Nat, n.nodes = N := ⟨n.nodes.toNat, by have := (Net.good_of_check hck).lo; have : n.net.nodes = n.nodes := rfl; omega⟩
 obtain ⟨hN0, hN6, hNN, hnn⟩ := nodes_six hck hN
 have ht := hm.ok hck
 rw [hNN] at ht
 have hmin := hm.mem
 have HFr := hide hm.own
 obtain ⟨i1, hi1, hy0, hy1, hy2⟩ := info_parts Tryz.infoRouter
 have hmkR : ∀ u : World, (Instr.makeSlice 28 (.int .i64 (N : Int)) (.int .i64 (N : Int))).run Tryz.prog u = .ok (.slice (some ⟨u.heap.size, 0, none⟩) N N) (u.alloc (.cells (madeCells #[.slice none 0 0, .slice none 0 0] (N * 2)) 59)) := fun u => by
  have h := run_make (P := Tryz.prog) u 28 59 i1 (.agg #[.slice none 0 0, .slice none 0 0]) Tryz.underlying28 hi1 hy0 .i64 .i64 (N : Int) (N : Int) (by omega) (Int.le_refl _) (by rw [hy2]; omega) (by omega)
  simpa [hy1, Value.cells] using h
 obtain ⟨mc, hmc⟩ : ∃ mc, mc = madeCells #[.slice none 0 0, .slice none 0 0] (N * 2) := ⟨_, rfl⟩
 rw [← hmc] at hmkR
 have hmcs : mc.size = N * 2 := by rw [hmc]; exact size_madeCells _ _
 obtain ⟨W3, hW3⟩ : ∃ W3, W3 = (W2.alloc (.cells mc 59)).alloc (.cells #[.slice (some ⟨W2.heap.size, 0, none⟩) N N, .slice none 0 0] 31) := ⟨_, rfl⟩
 have hI0 : ∃ vs Tb, NewI W2 N m (W2.heap.size + 1) W2.heap.size vs Tb 0 W3 := ⟨mc, fun _ => 0, by rw [hW3]; exact ((Below.refl _ W2).alloc (Nat.le_refl _) _).alloc (by simp) _, by rw [hW3]; exact Blk.new' (by simp), by rw [hW3]; exact (Blk.new W2 _ _).alloc _, hmcs, fun i hi => absurd hi (Nat.not_lt_zero _), fun i hi => absurd hi (Nat.not_lt_zero _), fun i hi => absurd hi (Nat.not_lt_zero _), Nat.le_refl _, by omega, by omega⟩
 have hga := hmin.ga (by rw [ht]; exact hN0)
 have hlen : m.t.len = N := by rw [ht]
 have y3 := c1.cell 3
 simp [NetM.cells, hN] at y3
 have HI0 := hide hI0
 have Hc1 := hide c1
 have Hc2 := hide c2
 have Hmin := hide hmin
 have Ht := hide ht
 have HW3 := hide hW3
 have HN := hide hN
 have Hck := hide hck
 have Hnn := hide hnn
 have HUn := hide (fun (a : Option Addr) (c : Nat) W => untold_any n a N c N W hN hN6)
 simp only [hck, hga, hlen]
 clear c1 c2 hb2 HBe hm ht hmin hI0 hW3 hga hlen hN hck hnn hNN hmc hmcs hi1 hy0 hy1 hy2
 go_wp2_with fail
 rw [← HW3.out]
 go_loopw [7, 8, 24] (fun _ _ q wr => ∃ k : Nat, k ≤ N ∧ q = .int .i64 k ∧ Hid (∃ vs Tb, NewI W2 N m (W2.heap.size + 1) W2.heap.size vs Tb k wr)) (fun _ _ q _ => N - (intOf q).toNat)
 case atStart => exact ⟨0, Nat.zero_le _, rfl, HI0⟩
 case round =>
  obtain ⟨k, hk, rfl, HI⟩ := hrel
  obtain ⟨vs, Tb, hC⟩ := HI.out
  clear HI HI0
  by_cases hlt : k < N
  ·have hki : (k : Int) < (N : Int) := by omega
   have hI := Hmin.out.below hC.below (Nat.le_refl _)
   have hrow := hI.row k (by rw [Ht.out]; exact hlt)
   have hLk : m.t.L k = N := by rw [Ht.out]
   rw [hLk] at hrow
   have HG4 : Hid (NewG W2 N n m w.heap.size (W2.heap.size + 1) W2.heap.size vs Tb k wr wr) := hide ⟨hC, Hc1.out.below hC.below Hc1.out.lt, Below.refl _ _⟩
   have HUk := hide (HUn.out (m.A k) (m.C k))
   simp only [NetM.val, NetM.cells, Mat.val, HN.out] at HUk
   clear hI hC hLk HUn
   go_wp2_with fail
   refine wp_region_last 7 _ (NewG W2 N n m w.heap.size (W2.heap.size + 1) W2.heap.size vs Tb k wr) (newV [.pointer (some ⟨W2.heap.size + 1, 0, none⟩), .slice (some ⟨W2.heap.size, 0, none⟩) N N, .int .i64 (k : Int), n.val, .slice (m.A k) N (m.C k), undef, .pointer (some ⟨W2.heap.size, k * 2, none⟩)] N (m.A k) (m.C k) wr) (fun _ W => ∃ vs Tb, NewI W2 N m (W2.heap.size + 1) W2.heap.size vs Tb (k + 1) W) (fun _ _ _ => True) (by kernel_rfl) (by kernel_rfl) (by kernel_rfl) (by kernel_rfl) (by kernel_rfl) rfl (HG4.out.keep ⟨rfl, rfl, rfl, Nat.le_refl _, fun _ _ => rfl⟩) ⟨?_, ?_, ?_, ?_, ?_, ?_, ?_, trivial⟩ ?_ trivial ?_
   rotate_right
   ·intro t W hG _
    have HN9 := hide hG
    clear hG
    simp only [fill, Act.put, List.setIfInBounds_toArray, List.set_cons_zero, List.set_cons_succ]
    go_wp2
    go_roundw
    case rel =>
     first
     | exact ⟨k + 1, by omega, by go_num, HN9⟩
     | ((repeat apply Exists.intro); refine ⟨?_, rfl⟩; exact ⟨k + 1, by omega, by go_num, HN9⟩)
    case measure => simp [intOf]; omega
   rotate_right
   ·intro t W hG hE _ K hK
    have e6 := newV_get (hE 6 (by omega)) (by decide) rfl
    have h5 : ∃ T : Nat, t 5 = .agg #[.slice (m.A k) N (m.C k), .slice (some ⟨T, 0, none⟩) N N] ∧ wr.heap.size ≤ T ∧ Blk W T (madeCells #[.slice none 0 0] N) 32 := hE 5 (by omega)
    simp only [fill, Act.put, List.setIfInBounds_toArray, List.set_cons_zero, List.set_cons_succ, e6] at hK ⊢
    rw [if_pos (by rfl)]
    obtain ⟨T, e5, hT, hbT⟩ := h5
    have hlt4 := HG4.out.inv.rtrs.lt
    have HN9 := hide (hG.inv.put hlt hbT (by omega))
    have hvz := hG.inv.size
    have g0 := hG.inv.rtrs.cell (k * 2)
    have g1 := hG.inv.rtrs.cell (k * 2 + 1)
    rw [Array.getElem?_eq_getElem (by omega)] at g0 g1
    have gf0 := hG.inv.rtrs.frozen (k * 2)
    have gf1 := hG.inv.rtrs.frozen (k * 2 + 1)
    simp only [e5] at hK ⊢
    clear hbT e5 e6 hE
    go_simp
    exact hK undef _ HN9.out
   all_goals intro t W hG hp ht K hK
   all_goals clear ht
   all_goals simp only [fill, Act.put, List.setIfInBounds_toArray, List.set_cons_zero, List.set_cons_succ] at hK ⊢
   ·rw [if_pos (by rfl)]
    go_simp
    exact hK _ _ hG rfl (fun _ _ _ h => h)
   ·have e0 := newV_get (hp 0 (by decide)) (by decide) rfl
    have o0 := hG.inv.out.cell 0
    simp at o0
    simp only [e0] at hK ⊢
    rw [if_pos (by rfl)]
    go_simp
    exact hK _ _ hG rfl (fun _ _ _ h => h)
   ·rw [if_pos (by rfl)]
    go_simp
    exact hK _ _ hG rfl (fun _ _ _ h => h)
   ·have x0 := hG.net.cell 0
    have x1 := hG.net.cell 1
    have x2 := hG.net.cell 2
    have x3 := hG.net.cell 3
    have x4 := hG.net.cell 4
    simp [NetM.cells, Mat.val] at x0 x1 x2 x3 x4
    rw [if_pos (by rfl)]
    go_simp
    exact hK _ _ hG rfl (fun _ _ _ h => h)
   ·rw [if_pos (by rfl)]
    go_simp
    exact hK _ _ hG rfl (fun _ _ _ h => h)
   ·have e3 := newV_get (hp 3 (by decide)) (by decide) rfl
    have e4 := newV_get (hp 4 (by decide)) (by decide) rfl
    simp only [NetM.val, NetM.cells, Mat.val, HN.out] at e3
    simp only [e3, e4] at hK ⊢
    rw [if_pos (by rfl)]
    go_simp
    go_at_call 21
    refine (HUk.out W).mono ?_
    rintro r W' ⟨⟨T, rfl, h1, h2⟩, hb⟩
    go_simp
    exact hK _ W' (hG.keep hb) ⟨T, rfl, by have := hG.below.size; omega, h2⟩ (fun _ _ _ h => newV_keep hb h)
   ·have e1 := newV_get (hp 1 (by decide)) (by decide) rfl
    have e2 := newV_get (hp 2 (by decide)) (by decide) rfl
    simp only [e1, e2] at hK ⊢
    rw [if_pos (by rfl)]
    go_simp
    exact hK _ _ hG rfl (fun _ _ _ h => h)
  ·have hkn : k = N := by omega
   subst hkn
   have c2 := Hc2.out.below hC.below Hc2.out.lt
   have o0 := hC.out.cell 0
   have o1 := hC.out.cell 1
   have s0 := c2.cell 0
   have s1 := c2.cell 1
   have f0 := c2.frozen 0
   have f1 := c2.frozen 1
   have c7 := (c2.set 0 (.slice (some ⟨W2.heap.size, 0, none⟩) k k)).set 1 (.slice none 0 0)
   have e0 := c7.cell 0
   have e1 := c7.cell 1
   simp at o0 o1 s0 s1 e0 e1
   have hlt2 := Hc2.out.lt
   have hI6 : Hid (NewAns n.net w (.returned (.tuple #[.agg #[.slice (some ⟨W2.heap.size, 0, none⟩) k k, .slice none 0 0], .int .i64 0])) ((wr.setCell ⟨w.heap.size + 1, 0, none⟩ (.slice (some ⟨W2.heap.size, 0, none⟩) k k)).setCell ⟨w.heap.size + 1, 1, none⟩ (.slice none 0 0))) := hide (by
    have hbw := ((HB2.out.trans (hC.below.mono HB2.out.size)).setCell (p := ⟨w.heap.size + 1, 0, none⟩) (by show w.heap.size ≤ w.heap.size + 1; omega) (.slice (some ⟨W2.heap.size, 0, none⟩) k k)).setCell (p := ⟨w.heap.size + 1, 1, none⟩) (by show w.heap.size ≤ w.heap.size + 1; omega) (.slice none 0 0)
    have hGq : W2.heap.size ≠ w.heap.size + 1 := by omega
    have hTq : ∀ i, i < k → Tb i ≠ w.heap.size + 1 := fun i hi => type_ne (hC.tb i hi).1 c2 (by decide)
    have hmi := (((Hmin.out.below hC.below (Nat.le_refl _)).mono hC.below.size).other (i := 0) HFr.out Hb2.out.lt (.slice (some ⟨W2.heap.size, 0, none⟩) k k)).other (i := 1) HFr.out Hb2.out.lt (.slice none 0 0)
    obtain ⟨x, hx1, hx2, hx3, hx4⟩ := new_eng ((hC.rtrs.other hGq 0 (.slice (some ⟨W2.heap.size, 0, none⟩) k k)).other hGq 1 (.slice none 0 0)) hC.r0 hC.r1 (fun i hi => ((hC.tb i hi).1.other (hTq i hi) _ _).other (hTq i hi) _ _) (by simpa using hmi) Ht.out Hck.out Hnn.out hN6
    exact ⟨hbw, Or.inr ⟨Hck.out, x, by rw [EngM.val, hx1], hx2, hx3, hx4⟩⟩)
   clear hC c2 c7 hlt2
   go_wp2
   exact bodyPost_ret (v := .tuple #[.agg #[.slice (some ⟨W2.heap.size, 0, none⟩) k k, .slice none 0 0], .int .i64 0]) (by simp [results, Tryz.results6, go_sem, e0, e1]) rfl hI6.out

end Go.Proofs.YtjhkadffaephmabGreat
