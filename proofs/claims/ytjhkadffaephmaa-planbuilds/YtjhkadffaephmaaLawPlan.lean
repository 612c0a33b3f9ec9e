/-
  signpostlaw.PlanBuilds: the walk.
-/
import Derived.Test.YtjhkadffaephmaaRefOf
import Derived.Test.YtjhkadffaephmaaPlanBegun
namespace Go.Proofs.Ytjhkadffaephmaa
set_option maxRecDepth 100000
open Go.RowKit

theorem Tab.same_self (t : Tab) : t.same t = true := Tab.same_iff.2 ⟨rfl, fun _ _ => ⟨rfl, fun _ _ => rfl⟩⟩

theorem alg_same {x y : AlgM} (h : x.alg = y.alg) : x.size = y.size ∧ x.B.t.same y.B.t = true ∧ x.E.t.same y.E.t = true := by
  unfold AlgM.alg at h
  injection h with h1 h2 h3
  exact ⟨h1, by rw [h2]; exact Tab.same_self _, by rw [h3]; exact Tab.same_self _⟩

set_option maxHeartbeats 4000000 in
theorem planBuilds_any (p : PlanM) (w : World) (h : p.In w.heap.size w) :
    Calls Try.prog 6 #[p.head.val] w fun e w' => e = .returned (.bool true) ∧ Below w.heap.size w w' := by
  have b0 := Blk.new w p.head.cells 42
  have hB0 : Below w.heap.size w (w.alloc (.cells p.head.cells 42)) := (Below.refl _ w).alloc (Nat.le_refl _) _
  have HP := hide (planBuild_any p _ (h.grown hB0))
  have HK := hide (fun W hI => planCheck_any p W hI)
  simp only [PHead.val, PHead.cells] at *
  go_enter Try.func6, Try.ntmps6
  go_wp2_with fail
  go_at_call 26
  refine HP.out.mono ?_
  rintro e w1 ⟨⟨m, rfl, hal, hmi⟩, hb1⟩
  have hB1 := hB0.trans (hb1.mono hB0.size)
  have b1 := b0.below hb1 b0.lt
  have hb2 : Below w1.heap.size w1 (w1.alloc (.cells #[.int .i64 m.size, m.B.val, m.E.val] 24)) := (Below.refl _ w1).alloc (Nat.le_refl _) _
  have bM := Blk.new w1 #[.int .i64 m.size, m.B.val, m.E.val] 24
  have hmi2 := (hmi.below hb2 (Nat.le_refl _)).mono hb2.size
  have hB2 := hB1.trans (hb2.mono hB1.size)
  have b2 := b1.below hb2 b1.lt
  have HO := hide (buildOf_any p _ (h.grown hB2))
  simp only [PHead.val, PHead.cells] at HO
  clear HP hB0 b0 hb1
  have x0 := b2.cell 0
  have x1 := b2.cell 1
  have x2 := b2.cell 2
  have x3 := b2.cell 3
  simp at x0 x1 x2 x3
  simp only [AlgM.val, Mat.val] at *
  go_wp2_with fail
  go_at_call 27
  refine HO.out.mono ?_
  rintro e w3 ⟨⟨m2, rfl, hal2, hmi3⟩, hb3⟩
  have hB3 := hB2.trans (hb3.mono hB2.size)
  have b3 := b2.below hb3 b2.lt
  have bM3 := bM.below hb3 bM.lt
  have hmiA := (hmi2.below hb3 (Nat.le_refl _)).mono hb3.size
  have hb4 : Below w3.heap.size w3 (w3.alloc (.cells #[.int .i64 m2.size, m2.B.val, m2.E.val] 24)) := (Below.refl _ w3).alloc (Nat.le_refl _) _
  have bN := Blk.new w3 #[.int .i64 m2.size, m2.B.val, m2.E.val] 24
  have b4 := b3.below hb4 b3.lt
  have bM4 := bM3.below hb4 bM3.lt
  have hmiA4 := (hmiA.below hb4 (Nat.le_refl _)).mono hb4.size
  have hmiB4 := (hmi3.below hb4 (Nat.le_refl _)).mono hb4.size
  have hB4 := hB3.trans (hb4.mono hB3.size)
  clear HO x0 x1 x2 x3 hmi2 hmi hmi3 hmiA b3 bM3 b2 b1 bM hb3 hb2 hB1 hB2
  have HAL := hide (hal.trans hal2.symm)
  clear hal hal2
  simp only [AlgM.val, Mat.val] at *
  go_wp2_with fail
  go_at_call 28
  refine (planBegun_any _).mono ?_
  rintro e w5 ⟨rfl, hb5⟩
  have hB5 := hB4.trans (hb5.mono hB4.size)
  have b5 := b4.below hb5 b4.lt
  have bM5 := bM4.below hb5 bM4.lt
  have bN5 := bN.below hb5 bN.lt
  have hmiA5 := (hmiA4.below hb5 (Nat.le_refl _)).mono hb5.size
  have hmiB5 := (hmiB4.below hb5 (Nat.le_refl _)).mono hb5.size
  have x0 := b5.cell 0
  have x1 := b5.cell 1
  have x2 := b5.cell 2
  have x3 := b5.cell 3
  simp at x0 x1 x2 x3
  have HK5 := hide (HK.out w5 (h.grown hB5))
  clear HK hb5 hb4 b4 bM4 bN hmiA4 hmiB4 hB4 hB3
  go_wp2_with fail
  go_at_call 29
  refine HK5.out.mono ?_
  rintro e w6 ⟨rfl, hb6⟩
  have hB6 := hB5.trans (hb6.mono hB5.size)
  have bM6 := bM5.below hb6 bM5.lt
  have bN6 := bN5.below hb6 bN5.lt
  have hmiA6 := (hmiA5.below hb6 (Nat.le_refl _)).mono hb6.size
  have hmiB6 := (hmiB5.below hb6 (Nat.le_refl _)).mono hb6.size
  obtain ⟨s1, s2, s3⟩ := alg_same HAL.out
  have HS := hide (sameAlgebra_yes m m2 w6 hmiA6 hmiB6 s1 s2 s3)
  clear HK5 hb6 b5 bM5 bN5 hmiA5 hmiB5 hB5 hmiA6 hmiB6 x0 x1 x2 x3 HAL s1 s2 s3
  have y0 := bM6.cell 0
  have y1 := bM6.cell 1
  have y2 := bM6.cell 2
  have z0 := bN6.cell 0
  have z1 := bN6.cell 1
  have z2 := bN6.cell 2
  simp at y0 y1 y2 z0 z1 z2
  simp only [AlgM.val, Mat.val] at HS
  have hck : (p.chk == p.chk) = true := beq_self_eq_true _
  go_wp2_with fail
  go_at_call 30
  refine HS.out.mono ?_
  rintro e w7 ⟨rfl, hb7⟩
  have hB7 := hide (hB6.trans (hb7.mono hB6.size))
  clear hb7 HS bM6 bN6 y0 y1 y2 z0 z1 z2
  go_wp2
  go_ret
  exact ⟨rfl, hB7.out⟩

end Go.Proofs.Ytjhkadffaephmaa
