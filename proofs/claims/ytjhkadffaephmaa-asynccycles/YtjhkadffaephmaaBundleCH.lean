/-
  Our own texts, bundled: a claim holds few files.
-/
import Derived.Test.YtjhkadffaephmaaBundleCG
import Derived.Test.YtjhkadffaephmaaBundleCE
import Derived.Test.YtjhkadffaephmaaBundleCD
/-
  signpostlaw.AsyncCycles.
-/
namespace Go.Proofs.Ytjhkadffaephmaa
set_option maxRecDepth 100000
open Go.RowKit

set_option maxHeartbeats 4000000 in
theorem asyncCycles_any (n : NetM) (s : SchedM) (w : World) (h : n.In w.heap.size w) (hs : s.In w.heap.size w) :
    Calls Try.prog 12 #[n.val, s.val] w fun e w' => e = .returned (.bool true) ∧ Below w.heap.size w w' := by
  have hB0 : Below w.heap.size w (w.alloc (.cells n.cells 50)) := (Below.refl _ w).alloc (Nat.le_refl _) _
  have b0 := Blk.new w n.cells 50
  have HCy := hide (cycles_any n s _ (h.grown hB0) (hs.grown hB0))
  have HCT := hide (fun W (hb : Below w.heap.size w W) => checkTurns_any n s W (h.grown hb) (hs.grown hb))
  have HOf := hide (fun W (hb : Below w.heap.size w W) hp => cyclesOf_any n s W (h.grown hb) (hs.grown hb) hp)
  have HPl := hide (fun (h0 : n.net.turns s.sched = 0) => Net.plays_of h0)
  have Hd : Hid (n.net.cyclesR s.sched = if n.net.turns s.sched = 0 then n.net.cycles s.sched 0 else 0) := hide rfl
  generalize htu : n.net.turns s.sched = tu at *
  generalize hre : n.net.cyclesR s.sched = re at *
  generalize hcy : n.net.cycles s.sched 0 = cy at *
  simp only [NetM.val, NetM.cells, Mat.val, SchedM.val] at *
  clear h hs htu hre hcy
  go_enter Try.func12, Try.ntmps12
  go_wp2_with fail
  go_at_call 50
  refine HCy.out.mono ?_
  rintro e w1 ⟨rfl, hb1⟩
  have hB1 := hB0.trans (hb1.mono hB0.size)
  have b1 := b0.below hb1 b0.lt
  have x0 := b1.cell 0
  have x1 := b1.cell 1
  have x2 := b1.cell 2
  have x3 := b1.cell 3
  have x4 := b1.cell 4
  simp at x0 x1 x2 x3 x4
  have HC1 := hide (HCT.out w1 hB1)
  clear HCy hB0 b0 hb1 HCT
  go_wp2_with fail
  go_at_call 45
  refine HC1.out.mono ?_
  rintro e w2 ⟨rfl, hb2⟩
  have hB2 := hB1.trans (hb2.mono hB1.size)
  have b2 := b1.below hb2 b1.lt
  clear HC1 hB1 b1 hb2 x0 x1 x2 x3 x4
  by_cases ht : tu = 0
  rotate_left
  · have ht' : (tu == 0) = false := by simp [ht]
    have hre : re = 0 := by rw [Hd.out, if_neg ht]
    have hee : (tu == tu) = true := by simp
    subst hre
    clear Hd HOf HPl ht
    go_wp2_with fail
    go_at_call 47
    refine (asyncBegun_any _).mono ?_
    rintro e w3 ⟨rfl, hb3⟩
    have hB3 := hide (hB2.trans (hb3.mono hB2.size))
    clear hB2 b2 hb3
    go_wp2
    go_ret
    exact ⟨rfl, hB3.out⟩
  have hre : re = cy := by rw [Hd.out, if_pos ht]
  have HO2 := hide (HOf.out w2 hB2 (HPl.out ht))
  have x0 := b2.cell 0
  have x1 := b2.cell 1
  have x2 := b2.cell 2
  have x3 := b2.cell 3
  have x4 := b2.cell 4
  simp at x0 x1 x2 x3 x4
  subst ht
  subst hre
  clear Hd HOf HPl
  go_wp2_with fail
  go_at_call 51
  refine HO2.out.mono ?_
  rintro e w3 ⟨rfl, hb3⟩
  have hB3 := hB2.trans (hb3.mono hB2.size)
  have hee : ((re : Int) == (re : Int)) = true := by simp
  clear HO2 hB2 b2 hb3 x0 x1 x2 x3 x4
  go_wp2_with fail
  go_at_call 47
  refine (asyncBegun_any _).mono ?_
  rintro e w4 ⟨rfl, hb4⟩
  have hB4 := hide (hB3.trans (hb4.mono hB3.size))
  clear hB3 hb4
  go_wp2
  go_ret
  exact ⟨rfl, hB4.out⟩

end Go.Proofs.Ytjhkadffaephmaa
