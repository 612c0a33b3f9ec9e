/-
  Our own texts, bundled: a claim holds few files.
-/
import Derived.Test.YtjhkadffaephmaaBundleCE
import Derived.Test.YtjhkadffaephmaaBundleCD
/-
  signpostlaw.AsyncRuns.
-/
namespace Go.Proofs.Ytjhkadffaephmaa
set_option maxRecDepth 100000
open Go.RowKit

theorem Sts.same {N g g' len : Nat} {ms ms' : Nat → Mat} {Y : Nat → Nat → Nat → Int} {W : World} (h : Sts N g len ms Y W) (h' : Sts N g' len ms' Y W) {r : Nat} (hr : r < len) : (ms r).t.same (ms' r).t = true := by
  have a := h.each r hr
  have b := h'.each r hr
  refine Tab.same_iff.2 ⟨by rw [a.len, b.len], fun i hi => ?_⟩
  rw [a.len] at hi
  refine ⟨by rw [a.wide i hi, b.wide i hi], fun j hj => ?_⟩
  rw [a.wide i hi] at hj
  rw [a.val i hi j hj, b.val i hi j hj]

set_option maxHeartbeats 4000000 in
theorem asyncRuns_any (n : NetM) (x : Mat) (s : SchedM) (w : World) (h : n.In w.heap.size w) (hx : x.In w.heap.size w) (hs : s.In w.heap.size w) :
    Calls Try.prog 11 #[n.val, x.val, s.val] w fun e w' => e = .returned (.bool true) ∧ Below w.heap.size w w' := by
  have hB0 : Below w.heap.size w (w.alloc (.cells n.cells 50)) := (Below.refl _ w).alloc (Nat.le_refl _) _
  have b0 := Blk.new w n.cells 50
  have HRu := hide (run_any n x s _ (h.grown hB0) (hx.grown hB0) (hs.grown hB0))
  have HCT := hide (fun W (hb : Below w.heap.size w W) => checkTurns_any n s W (h.grown hb) (hs.grown hb))
  have HCk := hide (fun W (hb : Below w.heap.size w W) => asyncCheck_any n s W (h.grown hb) (hs.grown hb))
  have HRo := hide (fun W (hb : Below w.heap.size w W) h2 h24 => rowsOf_any n x W (hx.grown hb) h2 h24)
  have HOf := hide (fun W (hb : Below w.heap.size w W) hp hi => runOf_any n x s W (h.grown hb) (hx.grown hb) (hs.grown hb) hp hi)
  have HPl := hide (fun (h0 : n.net.turns s.sched = 0) => Net.plays_of h0)
  have HFi := hide (fun (h0 : n.net.fit x.t = 0) => (Net.is_of_fit h0).2)
  have Hd : Hid (runE n.net x.t s.sched = if n.net.turns s.sched = 0 then n.net.fit x.t else n.net.turns s.sched) := hide rfl
  have Hft : Hid (n.net.fit x.t = if n.net.check = 0 then n.net.rows x.t else n.net.check) := hide rfl
  generalize htu : n.net.turns s.sched = tu at *
  generalize hre : runE n.net x.t s.sched = re at *
  generalize hfi : n.net.fit x.t = fi at *
  generalize hro : n.net.rows x.t = ro at *
  simp only [NetM.val, NetM.cells, Mat.val, SchedM.val] at *
  clear h hx hs htu hre hfi hro
  go_enter Try.func11, Try.ntmps11
  go_wp2_with fail
  go_at_call 44
  refine HRu.out.mono ?_
  rintro e w1 ⟨hA, hb1⟩
  have hB1 := hB0.trans (hb1.mono hB0.size)
  have b1 := b0.below hb1 b0.lt
  have x0 := b1.cell 0
  have x1 := b1.cell 1
  have x2 := b1.cell 2
  have x3 := b1.cell 3
  have x4 := b1.cell 4
  simp at x0 x1 x2 x3 x4
  have HC1 := hide (HCT.out w1 hB1)
  clear HRu hB0 b0 hb1 HCT
  by_cases ht : tu = 0
  rotate_left
  · have ht' : (tu == 0) = false := by simp [ht]
    have ht2 : (tu != 0) = true := by simp [ht]
    have hre : re = tu := by rw [Hd.out, if_neg ht]
    rw [hre] at hA
    obtain rfl := hA.2 ht
    clear hA Hd Hft HRo HOf HPl HFi hre ht
    go_wp2_with fail
    go_at_call 45
    refine HC1.out.mono ?_
    rintro e w2 ⟨rfl, hb2⟩
    have hB2 := hB1.trans (hb2.mono hB1.size)
    have b2 := b1.below hb2 b1.lt
    clear HC1 hB1 b1 hb2 x0 x1 x2 x3 x4
    go_wp2_with fail
    go_at_call 47
    refine (asyncBegun_any _).mono ?_
    rintro e w3 ⟨rfl, hb3⟩
    have hB3 := hB2.trans (hb3.mono hB2.size)
    have b3 := b2.below hb3 b2.lt
    have x0 := b3.cell 0
    have x1 := b3.cell 1
    have x2 := b3.cell 2
    have x3 := b3.cell 3
    have x4 := b3.cell 4
    simp at x0 x1 x2 x3 x4
    have HC3 := hide (HCk.out w3 hB3)
    clear hB2 b2 hb3 HCk
    go_wp2_with fail
    go_at_call 48
    refine HC3.out.mono ?_
    rintro e w4 ⟨rfl, hb4⟩
    have hB4 := hide (hB3.trans (hb4.mono hB3.size))
    have hne : (tu != tu) = false := by simp
    clear hB3 b3 hb4 HC3 x0 x1 x2 x3 x4
    go_wp2
    go_ret
    exact ⟨rfl, hB4.out⟩
  have hp := HPl.out ht
  have hck := hp.net
  have gd := (Net.good_of_check hck).law.good
  have hlo := gd.lo
  have hhi := gd.hi
  have hsz : n.net.a.size = n.a.size := rfl
  have hfr : fi = ro := by rw [Hft.out, if_pos hck]
  have hre : re = ro := by rw [Hd.out, if_pos ht, hfr]
  have hmany : s.tn ≤ 200 := hp.many
  subst ht
  subst hfr
  subst hre
  have HP := hide hp
  clear Hd Hft hp hck gd HPl
  by_cases hf : re = 0
  rotate_left
  · have hf' : (re != 0) = true := by simp [hf]
    have hne : (re != re) = false := by simp
    obtain rfl := hA.2 hf
    clear hA hf HOf HFi HP
    go_wp2_with fail
    go_at_call 45
    refine HC1.out.mono ?_
    rintro e w2 ⟨rfl, hb2⟩
    have hB2 := hB1.trans (hb2.mono hB1.size)
    have b2 := b1.below hb2 b1.lt
    have y0 := b2.cell 0
    have y1 := b2.cell 1
    have y2 := b2.cell 2
    have y3 := b2.cell 3
    have y4 := b2.cell 4
    simp at y0 y1 y2 y3 y4
    have HR2 := hide (HRo.out w2 hB2 (by omega) (by omega))
    clear HC1 hB1 b1 x0 x1 x2 x3 x4 HRo
    go_wp2_with fail
    go_at_call 46
    refine HR2.out.mono ?_
    rintro e w3 ⟨rfl, hb3⟩
    have hB3 := hB2.trans (hb3.mono hB2.size)
    have b3 := b2.below hb3 b2.lt
    clear HR2 hB2 b2 y0 y1 y2 y3 y4
    go_wp2_with fail
    go_at_call 47
    refine (asyncBegun_any _).mono ?_
    rintro e w4 ⟨rfl, hb4⟩
    have hB4 := hB3.trans (hb4.mono hB3.size)
    have b4 := b3.below hb4 b3.lt
    have x0 := b4.cell 0
    have x1 := b4.cell 1
    have x2 := b4.cell 2
    have x3 := b4.cell 3
    have x4 := b4.cell 4
    simp at x0 x1 x2 x3 x4
    have HC4 := hide (HCk.out w4 hB4)
    clear hB3 b3 HCk
    go_wp2_with fail
    go_at_call 48
    refine HC4.out.mono ?_
    rintro e w5 ⟨rfl, hb5⟩
    have hB5 := hB4.trans (hb5.mono hB4.size)
    have b5 := b4.below hb5 b4.lt
    clear hB4 b4 HC4 x0 x1 x2 x3 x4
    have HB := hide hB5
    clear hB5 hb2 hb3 hb4 hb5 b5
    go_wp2
    go_ret
    exact ⟨rfl, HB.out⟩
  have HIs := hide (HFi.out hf)
  obtain ⟨g, cap, ms, rfl, _, hS1⟩ := hA.1 hf
  have HOf1 := hide (fun W hb => HOf.out W hb HP.out HIs.out)
  subst hf
  clear hA HFi HOf
  go_wp2_with fail
  go_at_call 45
  refine HC1.out.mono ?_
  rintro e w2 ⟨rfl, hb2⟩
  have hB2 := hB1.trans (hb2.mono hB1.size)
  have b2 := b1.below hb2 b1.lt
  have y0 := b2.cell 0
  have y1 := b2.cell 1
  have y2 := b2.cell 2
  have y3 := b2.cell 3
  have y4 := b2.cell 4
  simp at y0 y1 y2 y3 y4
  have HR2 := hide (HRo.out w2 hB2 (by omega) (by omega))
  clear HC1 hB1 b1 x0 x1 x2 x3 x4 HRo
  go_wp2_with fail
  go_at_call 46
  refine HR2.out.mono ?_
  rintro e w3 ⟨rfl, hb3⟩
  have hB3 := hB2.trans (hb3.mono hB2.size)
  have b3 := b2.below hb3 b2.lt
  clear HR2 hB2 b2 y0 y1 y2 y3 y4
  go_wp2_with fail
  go_at_call 47
  refine (asyncBegun_any _).mono ?_
  rintro e w4 ⟨rfl, hb4⟩
  have hB4 := hB3.trans (hb4.mono hB3.size)
  have b4 := b3.below hb4 b3.lt
  have x0 := b4.cell 0
  have x1 := b4.cell 1
  have x2 := b4.cell 2
  have x3 := b4.cell 3
  have x4 := b4.cell 4
  simp at x0 x1 x2 x3 x4
  have HC4 := hide (HCk.out w4 hB4)
  clear hB3 b3 HCk
  go_wp2_with fail
  go_at_call 48
  refine HC4.out.mono ?_
  rintro e w5 ⟨rfl, hb5⟩
  have hB5 := hB4.trans (hb5.mono hB4.size)
  have b5 := b4.below hb5 b4.lt
  clear hB4 b4 HC4 x0 x1 x2 x3 x4
  have HSt := hide ((((hS1.grown hb2).grown hb3).grown hb4).grown hb5)
  have z0 := b5.cell 0
  have z1 := b5.cell 1
  have z2 := b5.cell 2
  have z3 := b5.cell 3
  have z4 := b5.cell 4
  simp at z0 z1 z2 z3 z4
  have HO5 := hide (HOf1.out w5 hB5)
  clear hS1 hb2 hb3 hb4 hb5 HOf1
  go_wp2_with fail
  go_at_call 49
  refine HO5.out.mono ?_
  rintro e w6 ⟨⟨g', cap', ms', rfl, hS6⟩, hb6⟩
  have HB6 := hide (hB5.trans (hb6.mono hB5.size))
  have HSa := hide (HSt.out.grown hb6)
  have HSb := hide hS6
  have HSm := hide (fun r (hr : r < s.tn + 1) => HSa.out.same HSb.out hr)
  have hkk : ((s.tn + 1 : Nat) : Int) = (s.tn : Int) + 1 := by omega
  clear HO5 hB5 b5 hb6 hS6 HSt z0 z1 z2 z3 z4 HP HIs
  go_wp2_with fail
  go_loopw [12] (fun q wr => ∃ i : Nat, i ≤ s.tn + 1 ∧ q = .int .i64 i ∧ Hid (∃ z, wr = w6.drewN z)) (fun q _ => s.tn + 1 - (intOf q).toNat)
  case atStart => exact ⟨0, Nat.zero_le _, rfl, hide ⟨0, rfl⟩⟩
  case round =>
    obtain ⟨i, hi, rfl, HD⟩ := hrel
    by_cases hlt : i < s.tn + 1
    · have hii : (i : Int) < (s.tn : Int) + 1 := by omega
      have hbz : Below w6.heap.size w6 wr := by obtain ⟨z, rfl⟩ := HD.out; exact below_drewN (Below.refl _ _) z
      have ha := HSa.out.grown hbz
      have hb := HSb.out.grown hbz
      have e1 := ha.cell i hlt
      have e2 := hb.cell i hlt
      rw [Mat.val] at e1 e2
      have HSS := hide (fun z => sameState_any (ms i) (ms' i) wr.heap.size (wr.drewN z) ((ha.each i hlt).grown (below_drewN (Below.refl _ _) z)).mem ((hb.each i hlt).grown (below_drewN (Below.refl _ _) z)).mem)
      rw [HSm.out i hlt] at HSS
      simp only [Mat.val] at HSS
      clear ha hb hbz
      go_wp2_with fail
      go_quiet ((go_at_call 43; exact Calls.quiet_of (HSS.out _)))
      go_wp2
      go_roundw
      case rel =>
        first
        | exact ⟨i + 1, by omega, by go_num, hide (by obtain ⟨m, rfl⟩ := HD.out; exact ⟨_, by rw [World.drewN_drewN]⟩)⟩
        | ((repeat apply Exists.intro); refine ⟨?_, rfl⟩; exact ⟨i + 1, by omega, by go_num, hide (by obtain ⟨m, rfl⟩ := HD.out; exact ⟨_, by rw [World.drewN_drewN]⟩)⟩)
      case measure => simp [intOf]; omega
    · have hii : ¬ ((i : Int) < (s.tn : Int) + 1) := by omega
      go_wp2
      go_ret
      exact ⟨rfl, by obtain ⟨m, rfl⟩ := HD.out; exact below_drewN HB6.out m⟩

end Go.Proofs.Ytjhkadffaephmaa
