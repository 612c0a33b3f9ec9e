/-
  signpostref.BuildOf.
-/
import Derived.Test.YtjhkadffaephmaaRefBuiltB
import Derived.Test.YtjhkadffaephmaaPlanB
import Derived.Test.YtjhkadffaephmaaPlanG
namespace Go.Proofs.Ytjhkadffaephmaa
set_option maxRecDepth 100000
open Go.RowKit

theorem answer_of {x : NAlg} {b : Nat} {VB VE : Value} {w : World} (h : TabsOf x b w.heap.size VB VE w) (hx : x.Ok) : Answer x.alg 0 (.returned (.tuple #[.agg #[.int .i64 x.size, VB, VE], .int .i64 0])) w := by
  obtain ⟨m, rfl, rfl, hl, hi⟩ := tabs_mats h hx
  refine ⟨m, ?_, ?_, hi⟩
  · rw [← hl.size]; rfl
  · unfold AlgM.alg NAlg.alg
    rw [hl.size, hl.B, hl.E]

set_option maxHeartbeats 2000000 in
theorem buildOf_any (p : PlanM) (w : World) (hin : p.In w.heap.size w) :
    Calls Try.prog 27 #[p.head.val] w fun e w' => Answer p.res p.chk e w' ∧ Below w.heap.size w w' := by
  have hb0 : Below w.heap.size w ((w.alloc (.cells p.head.cells 42)).alloc (.cells #[.int .i64 0, .slice none 0 0, .slice none 0 0] 24)) := ((Below.refl _ w).alloc (Nat.le_refl _) _).alloc (by simp) _
  have b0 := (Blk.new w p.head.cells 42).alloc (.cells #[.int .i64 0, .slice none 0 0, .slice none 0 0] 24)
  have bR : Blk ((w.alloc (.cells p.head.cells 42)).alloc (.cells #[.int .i64 0, .slice none 0 0, .slice none 0 0] 24)) (w.heap.size + 1) #[.int .i64 0, .slice none 0 0, .slice none 0 0] 24 := Blk.new' (by simp)
  have HC := hide (deepOf_any p 4 _ (Nat.le_refl _) (hin.grown hb0))
  have hsz : ((w.alloc (.cells p.head.cells 42)).alloc (.cells #[.int .i64 0, .slice none 0 0, .slice none 0 0] 24)).heap.size = w.heap.size + 2 := by simp
  have Hm := hide (show (p.deep 4 = true ∨ p.wide = true) → p.res = nilAlg.alg ∧ p.chk = 2 from fun h => by
    have e : p.chk = 2 := by unfold PlanM.chk; rw [if_pos (by rw [many_eq]; simpa using h)]
    exact ⟨by unfold PlanM.res; rw [if_neg (by rw [e]; decide)], e⟩)
  have Hn := hide (show p.deep 4 = false → p.wide = false → p.chk = p.err from fun h1 h2 => by
    unfold PlanM.chk; rw [if_neg (by rw [many_eq, h1, h2]; simp)])
  simp only [PHead.val, PHead.cells] at *
  go_enter Try.func27, Try.ntmps27
  go_wp2_with fail
  go_at_call 66
  refine HC.out.mono ?_
  rintro r w1 ⟨n, rfl, ⟨hn1, hn2, hn3⟩, hb1⟩
  rw [hsz] at hb1
  have hB := hb0.trans (hb1.mono (by omega))
  have bR1 := bR.below hb1 (by omega)
  have b1 := b0.below hb1 (by omega)
  clear HC
  have d0 := bR1.cell 0
  have d1 := bR1.cell 1
  have d2 := bR1.cell 2
  have df := bR1.frozen
  have bR3 := bR1.set3 (.int .i64 2) (.slice none 0 0) (.slice none 0 0)
  simp at d0 d1 d2
  by_cases h4 : 4 < n
  · have h4i : (4 : Int) < (n : Int) := by omega
    obtain ⟨hr, hc⟩ := Hm.out (Or.inl (hn3.1 h4))
    have HR := hide hr
    have HK := hide hc
    have bR3 := bR1.set3 (.int .i64 0) (.slice none 0 0) (.slice none 0 0)
    have e0 := bR3.cell 0
    have e1 := bR3.cell 1
    have e2 := bR3.cell 2
    unfold Ytjhkadffaephmaa.set3 at e0 e1 e2
    simp at e0 e1 e2
    have HBe := hide (below3 hB (show w.heap.size ≤ w.heap.size + 1 by omega) (.int .i64 0) (.slice none 0 0) (.slice none 0 0))
    clear hr hc hn3 Hm Hn
    go_wp2
    exact bodyPost_ret (v := .tuple #[.agg #[.int .i64 0, .slice none 0 0, .slice none 0 0], .int .i64 2]) (by simp [results, Try.results27, go_sem, e0, e1, e2]) rfl ⟨⟨nilAlg, by rw [HK.out]; rfl, HR.out.symm, nilAlg_in _ _⟩, HBe.out⟩
  · have h4i : (n : Int) ≤ 4 := by omega
    have hd : p.deep 4 = false := by rw [Bool.eq_false_iff]; exact fun h => h4 (hn3.2 h)
    have HD := hide hd
    clear hd hn3 h4
    have c0 := b1.cell 0
    have c1 := b1.cell 1
    have c2 := b1.cell 2
    have c3 := b1.cell 3
    simp at c0 c1 c2 c3
    have HW := hide (wideOf_any p w1 (hin.grown hB))
    simp only [PHead.val, PHead.cells] at HW
    go_wp2_with fail
    go_at_call 67
    refine HW.out.mono ?_
    rintro r w2 ⟨rfl, hb2⟩
    have hs1 : w.heap.size + 2 ≤ w1.heap.size := by have := hb1.size; omega
    have bR2 := bR1.below hb2 bR1.lt
    have b2 := b1.below hb2 b1.lt
    have hB2 := hB.trans (hb2.mono hB.size)
    have hs2 := hb2.size
    clear d0 d1 d2 df c0 c1 c2 c3 HW
    have d0 := bR2.cell 0
    have d1 := bR2.cell 1
    have d2 := bR2.cell 2
    have df := bR2.frozen
    simp at d0 d1 d2
    cases hw : p.wide with
    | true =>
      obtain ⟨hr, hc⟩ := Hm.out (Or.inr hw)
      have HR := hide hr
      have HK := hide hc
      have bR3 := bR2.set3 (.int .i64 0) (.slice none 0 0) (.slice none 0 0)
      have e0 := bR3.cell 0
      have e1 := bR3.cell 1
      have e2 := bR3.cell 2
      unfold Ytjhkadffaephmaa.set3 at e0 e1 e2
      simp at e0 e1 e2
      have HBe := hide (below3 hB2 (show w.heap.size ≤ w.heap.size + 1 by omega) (.int .i64 0) (.slice none 0 0) (.slice none 0 0))
      clear hr hc Hm Hn hw
      go_wp2
      exact bodyPost_ret (v := .tuple #[.agg #[.int .i64 0, .slice none 0 0, .slice none 0 0], .int .i64 2]) (by simp [results, Try.results27, go_sem, e0, e1, e2]) rfl ⟨⟨nilAlg, by rw [HK.out]; rfl, HR.out.symm, nilAlg_in _ _⟩, HBe.out⟩
    | false =>
      have HE := hide (Hn.out HD.out hw)
      have HBu := hide (refBuilt_any p w2 (hin.grown hB2) hw)
      have HWd := hide hw
      clear hw Hm Hn
      have c0 := b2.cell 0
      have c1 := b2.cell 1
      have c2 := b2.cell 2
      have c3 := b2.cell 3
      simp at c0 c1 c2 c3
      simp only [PHead.val, PHead.cells] at HBu
      go_wp2_with fail
      go_at_call 68
      refine HBu.out.mono ?_
      rintro e w3 ⟨ha, hb3⟩
      have bR4 := bR2.below hb3 bR2.lt
      have hB3 := hB2.trans (hb3.mono hB2.size)
      clear d0 d1 d2 df c0 c1 c2 c3 HBu b0 b1 b2 bR bR1 bR2 bR3 hb1 hb2
      have d0 := bR4.cell 0
      have d1 := bR4.cell 1
      have d2 := bR4.cell 2
      have df := bR4.frozen
      simp at d0 d1 d2
      rcases ha with ⟨h0, VB, VE, rfl, ht⟩ | ⟨h0, rfl⟩
      · obtain ⟨gB, cB, gE, cE, rfl, rfl⟩ := tabs_forms ht
        have hok := (built_ok h0 HWd.out).1
        have bR5 := bR4.set3 (.int .i64 p.built.size) (.slice gB p.built.size cB) (.slice gE p.built.el cE)
        have e0 := bR5.cell 0
        have e1 := bR5.cell 1
        have e2 := bR5.cell 2
        unfold Ytjhkadffaephmaa.set3 at e0 e1 e2
        simp at e0 e1 e2
        have HBe := hide (below3 hB3 (show w.heap.size ≤ w.heap.size + 1 by omega) (.int .i64 p.built.size) (.slice gB p.built.size cB) (.slice gE p.built.el cE))
        have HA : Hid (Answer p.res p.chk (.returned (.tuple #[.agg #[.int .i64 p.built.size, .slice gB p.built.size cB, .slice gE p.built.el cE], .int .i64 0])) (set3 w3 (w.heap.size + 1) (.int .i64 p.built.size) (.slice gB p.built.size cB) (.slice gE p.built.el cE))) := hide (by
          have hc : p.chk = 0 := by rw [HE.out, h0]
          rw [show p.res = p.built.alg by unfold PlanM.res; rw [if_pos hc], hc]
          exact answer_of (tabs_set3 ht (by omega) _ _ _) hok)
        clear ht hok h0 bR4 bR5
        go_wp2
        exact bodyPost_ret (v := .tuple #[.agg #[.int .i64 p.built.size, .slice gB p.built.size cB, .slice gE p.built.el cE], .int .i64 0]) (by simp [results, Try.results27, go_sem, e0, e1, e2]) rfl ⟨HA.out, HBe.out⟩
      · have bR5 := bR4.set3 (.int .i64 0) (.slice none 0 0) (.slice none 0 0)
        have e0 := bR5.cell 0
        have e1 := bR5.cell 1
        have e2 := bR5.cell 2
        unfold Ytjhkadffaephmaa.set3 at e0 e1 e2
        simp at e0 e1 e2
        have HBe := hide (below3 hB3 (show w.heap.size ≤ w.heap.size + 1 by omega) (.int .i64 0) (.slice none 0 0) (.slice none 0 0))
        have HR := hide (show p.res = nilAlg.alg by unfold PlanM.res; rw [if_neg (by rw [HE.out]; exact h0)])
        clear h0
        generalize hce : p.err = ce at *
        have HK := hide (HE.out)
        clear hce
        go_wp2
        exact bodyPost_ret (v := .tuple #[.agg #[.int .i64 0, .slice none 0 0, .slice none 0 0], .int .i64 ce]) (by simp [results, Try.results27, go_sem, e0, e1, e2]) rfl ⟨⟨nilAlg, by rw [HK.out]; rfl, HR.out.symm, nilAlg_in _ _⟩, HBe.out⟩

end Go.Proofs.Ytjhkadffaephmaa
