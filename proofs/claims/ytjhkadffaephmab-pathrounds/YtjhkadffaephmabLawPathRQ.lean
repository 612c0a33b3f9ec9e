/-
  signpostlaw.PathRounds.
-/
import Derived.Test.YtjhkadffaephmabBundleFB
import Derived.Test.YtjhkadffaephmabBundleFD
import Derived.Test.YtjhkadffaephmabBundleFE
namespace Go.Proofs.Ytjhkadffaephmab
set_option maxRecDepth 100000
open Go.RowKit

/-- What stands all through the walk. -/
structure PRG (w : World) (n : NetM) (y z : RMat) (N : Nat) (Zy Zz : Nat → Nat → Rt) (ft se : Int) (W : World) : Prop where
  below : Below w.heap.size w W
  blk : Blk W w.heap.size n.cells 41
  y : RtAns N Zy ft y W
  z : RtAns N Zz se z W
theorem PRG.keep {w : World} {n : NetM} {y z : RMat} {N : Nat} {Zy Zz : Nat → Nat → Rt} {ft se : Int} {W W' : World} (h : PRG w n y z N Zy Zz ft se W) (hb : Below W.heap.size W W') : PRG w n y z N Zy Zz ft se W' :=
  ⟨h.below.trans (hb.mono h.below.size), h.blk.below hb h.blk.lt, h.y.grown hb, h.z.grown hb⟩

set_option maxHeartbeats 8000000 in
theorem pathRounds_any (n : NetM) (x : RMat) (most : Int) (w : World) (h : n.In w.heap.size w) (hx : x.In w.heap.size w) (hq : x.Caps) :
    Calls Try.prog 8 #[n.val, x.val, .int .i64 most] w fun e w' => e = .returned (.bool true) ∧ Below w.heap.size w w' := by
  have hB0 : Below w.heap.size w (w.alloc (.cells n.cells 41)) := (Below.refl _ w).alloc (Nat.le_refl _) _
  have b0 := Blk.new w n.cells 41
  have HR := hide (pathRound_any n x _ (h.grown hB0) (hx.grown hB0))
  have HSt := hide (fun W (hb : Below w.heap.size w W) => pathSettle_any n x most W (h.grown hb) (hx.grown hb))
  have HFt := hide (fun W (hb : Below w.heap.size w W) => fitPaths_any n x W (h.grown hb) (hx.grown hb) hq)
  have HRo := hide (fun (hf : n.net.pfit x.t = 0) W (hb : Below w.heap.size w W) => roundPaths_any n x W (h.grown hb) (hx.grown hb) (Net.pis_of_fit hf).1 (Net.pis_of_fit hf).2)
  have HSo0 := hide (fun (M : Nat) (hM : M ≤ 1000) (hf : n.net.pfit x.t = 0) W (hb : Below w.heap.size w W) => settlePaths_any n x M W (h.grown hb) (hx.grown hb) (Net.pis_of_fit hf).1 (Net.pis_of_fit hf).2 hM)
  have HPf := hide (fun W (hb : Below w.heap.size w W) => pathFit_any n x W (h.grown hb) (hx.grown hb))
  have Hse : Hid (n.net.psettleE x.t most = if n.net.pfit x.t ≠ 0 then n.net.pfit x.t else if most < 0 ∨ 1000 < most then 3 else 0) := hide rfl
  generalize n.net.pfit x.t = ft at *
  generalize n.net.psettleE x.t most = se at *
  clear h hx hq
  have HB0 := hide hB0
  have Hb0 := hide b0
  have x0 := b0.cell 0
  have x1 := b0.cell 1
  have x2 := b0.cell 2
  have x3 := b0.cell 3
  have x4 := b0.cell 4
  simp [NetM.cells, Mat.val] at x0 x1 x2 x3 x4
  simp only [NetM.val, NetM.cells, Mat.val, RMat.val] at HR HSt HFt HRo HSo0 HPf x0 x1 x2 x3 x4 ⊢
  clear hB0 b0
  go_enter Try.func8, Try.ntmps8
  go_wp2_with fail
  go_at_call 41
  refine HR.out.mono ?_
  rintro e w1 ⟨⟨y, rfl, hy⟩, hb1⟩
  have hB1 := HB0.out.trans (hb1.mono HB0.out.size)
  have b1 := Hb0.out.below hb1 Hb0.out.lt
  have HY := hide hy
  have HB1 := hide hB1
  have Hb1 := hide b1
  clear x0 x1 x2 x3 x4
  have x0 := b1.cell 0
  have x1 := b1.cell 1
  have x2 := b1.cell 2
  have x3 := b1.cell 3
  have x4 := b1.cell 4
  simp [NetM.cells, Mat.val] at x0 x1 x2 x3 x4
  have HS1 := hide (HSt.out w1 hB1)
  clear HR HSt HB0 Hb0 hb1 hy hB1 b1
  go_wp2_with fail
  go_at_call 42
  refine HS1.out.mono ?_
  rintro e w2 ⟨⟨z, kk, rfl, hz, hkk⟩, hb2⟩
  have HG2 : Hid (PRG w n y z n.net.N (n.net.pround x.t.Z) (n.net.psettle most.toNat x.t.Z).1 ft se w2) := hide ⟨HB1.out.trans (hb2.mono HB1.out.size), Hb1.out.below hb2 Hb1.out.lt, HY.out.grown hb2, hz⟩
  have Hkk := hide hkk
  clear x0 x1 x2 x3 x4 HS1 hb2 hz hkk HB1 Hb1 HY
  have bN2 := HG2.out.blk
  have x0 := bN2.cell 0
  have x1 := bN2.cell 1
  have x2 := bN2.cell 2
  have x3 := bN2.cell 3
  have x4 := bN2.cell 4
  simp [NetM.cells, Mat.val] at x0 x1 x2 x3 x4
  clear bN2
  have HF1 := hide (HFt.out w2 HG2.out.below)
  clear HFt
  go_wp2_with fail
  go_at_call 43
  refine HF1.out.mono ?_
  rintro e w3 ⟨rfl, hb3⟩
  have HG3 := hide (HG2.out.keep hb3)
  clear hb3 HG2 HF1 x0 x1 x2 x3 x4
  by_cases hf : ft = 0
  · subst hf
    by_cases hm : most < 0 ∨ 1000 < most
    · have hse : se = 3 := by rw [Hse.out, if_neg (by simp), if_pos hm]
      subst hse
      have hkk : kk = 0 := by rw [Hkk.out, if_neg (by decide)]
      subst hkk
      clear Hse Hkk HSo0
      by_cases h0 : most < 0
      · clear hm
        have HR1 := hide (HRo.out (by trivial) w3 HG3.out.below)
        have bN3 := HG3.out.blk
        have x0 := bN3.cell 0
        have x1 := bN3.cell 1
        have x2 := bN3.cell 2
        have x3 := bN3.cell 3
        have x4 := bN3.cell 4
        simp [NetM.cells, Mat.val] at x0 x1 x2 x3 x4
        clear bN3
        go_wp2_with fail
        go_at_call 44
        refine HR1.out.mono ?_
        rintro e w4 ⟨⟨u, rfl, hu⟩, hb4⟩
        have HG4 := hide (HG3.out.keep hb4)
        have HU4 := hide hu
        have hsu : y.t.same u.t = true := (((HG3.out.y.ok rfl).psame hu).trans (Net.psame_iff.2 (fun _ _ _ _ => rfl)))
        clear hb4 hu HR1 HG3 x0 x1 x2 x3 x4
        have hsv : z.t.same nilR.t = true := RTab.same_iff.2 ⟨HG4.out.z.bad (by decide), fun r hr => by have e : z.len = 0 := HG4.out.z.bad (by decide); rw [show z.t.len = 0 from e] at hr; exact absurd hr (Nat.not_lt_zero _)⟩
        have HG5 := HG4
        have HU5 := HU4
        clear HG4 HU4
        go_wp2_with fail
        go_at_call 39
        refine (pathBegun_any _).mono ?_
        rintro e w6 ⟨rfl, hb6⟩
        have HG6 := hide (HG5.out.keep hb6)
        have HU6 := hide (HU5.out.grown hb6)
        have HP := hide (HPf.out w6 HG6.out.below)
        have bN6 := HG6.out.blk
        have x0 := bN6.cell 0
        have x1 := bN6.cell 1
        have x2 := bN6.cell 2
        have x3 := bN6.cell 3
        have x4 := bN6.cell 4
        simp [NetM.cells, Mat.val] at x0 x1 x2 x3 x4
        clear bN6
        clear hb6 HG5 HU5
        go_wp2_with fail
        go_at_call 46
        refine HP.out.mono ?_
        rintro e w7 ⟨rfl, hb7⟩
        have HG7 := hide (HG6.out.keep hb7)
        have HU7 := hide (HU6.out.grown hb7)
        have HS1 := hide (samePaths_any y u w7 HG7.out.y.mem HU7.out.mem)
        rw [hsu] at HS1
        simp only [RMat.val] at HS1
        clear hb7 HG6 HP x0 x1 x2 x3 x4 HU6
        go_wp2_with fail
        go_at_call 47
        refine HS1.out.mono ?_
        rintro e w8 ⟨rfl, hb8⟩
        have HG8 := hide (HG7.out.keep hb8)
        have HS2 := hide (samePaths_any z nilR w8 HG8.out.z.mem (nilR_in _ _))
        rw [hsv] at HS2
        simp only [RMat.val, nilR] at HS2
        clear hb8 HG7 HS1 HU7
        go_wp2_with fail
        go_at_call 47
        refine HS2.out.mono ?_
        rintro e w9 ⟨rfl, hb9⟩
        have HBf := hide (HG8.out.keep hb9).below
        clear hb9 HG8 HS2
        go_wp2
        go_ret
        exact ⟨rfl, HBf.out⟩
      · have h1 : 1000 < most := by omega
        clear hm
        have HR1 := hide (HRo.out (by trivial) w3 HG3.out.below)
        have bN3 := HG3.out.blk
        have x0 := bN3.cell 0
        have x1 := bN3.cell 1
        have x2 := bN3.cell 2
        have x3 := bN3.cell 3
        have x4 := bN3.cell 4
        simp [NetM.cells, Mat.val] at x0 x1 x2 x3 x4
        clear bN3
        go_wp2_with fail
        go_at_call 44
        refine HR1.out.mono ?_
        rintro e w4 ⟨⟨u, rfl, hu⟩, hb4⟩
        have HG4 := hide (HG3.out.keep hb4)
        have HU4 := hide hu
        have hsu : y.t.same u.t = true := (((HG3.out.y.ok rfl).psame hu).trans (Net.psame_iff.2 (fun _ _ _ _ => rfl)))
        clear hb4 hu HR1 HG3 x0 x1 x2 x3 x4
        have hsv : z.t.same nilR.t = true := RTab.same_iff.2 ⟨HG4.out.z.bad (by decide), fun r hr => by have e : z.len = 0 := HG4.out.z.bad (by decide); rw [show z.t.len = 0 from e] at hr; exact absurd hr (Nat.not_lt_zero _)⟩
        have HG5 := HG4
        have HU5 := HU4
        clear HG4 HU4
        go_wp2_with fail
        go_at_call 39
        refine (pathBegun_any _).mono ?_
        rintro e w6 ⟨rfl, hb6⟩
        have HG6 := hide (HG5.out.keep hb6)
        have HU6 := hide (HU5.out.grown hb6)
        have HP := hide (HPf.out w6 HG6.out.below)
        have bN6 := HG6.out.blk
        have x0 := bN6.cell 0
        have x1 := bN6.cell 1
        have x2 := bN6.cell 2
        have x3 := bN6.cell 3
        have x4 := bN6.cell 4
        simp [NetM.cells, Mat.val] at x0 x1 x2 x3 x4
        clear bN6
        clear hb6 HG5 HU5
        go_wp2_with fail
        go_at_call 46
        refine HP.out.mono ?_
        rintro e w7 ⟨rfl, hb7⟩
        have HG7 := hide (HG6.out.keep hb7)
        have HU7 := hide (HU6.out.grown hb7)
        have HS1 := hide (samePaths_any y u w7 HG7.out.y.mem HU7.out.mem)
        rw [hsu] at HS1
        simp only [RMat.val] at HS1
        clear hb7 HG6 HP x0 x1 x2 x3 x4 HU6
        go_wp2_with fail
        go_at_call 47
        refine HS1.out.mono ?_
        rintro e w8 ⟨rfl, hb8⟩
        have HG8 := hide (HG7.out.keep hb8)
        have HS2 := hide (samePaths_any z nilR w8 HG8.out.z.mem (nilR_in _ _))
        rw [hsv] at HS2
        simp only [RMat.val, nilR] at HS2
        clear hb8 HG7 HS1 HU7
        go_wp2_with fail
        go_at_call 47
        refine HS2.out.mono ?_
        rintro e w9 ⟨rfl, hb9⟩
        have HBf := hide (HG8.out.keep hb9).below
        clear hb9 HG8 HS2
        go_wp2
        go_ret
        exact ⟨rfl, HBf.out⟩
    · have hse : se = 0 := by rw [Hse.out, if_neg (by simp), if_neg hm]
      subst hse
      obtain ⟨M, rfl⟩ : ∃ M : Nat, most = M := ⟨most.toNat, by omega⟩
      have hM : M ≤ 1000 := by omega
      have hMi : (M : Int) ≤ 1000 := by omega
      have hkk : kk = (n.net.psettle M x.t.Z).2 := by rw [Hkk.out, if_pos rfl]; rfl
      subst hkk
      have HSo := hide (HSo0.out M hM)
      rw [Int.toNat_natCast] at HG3
      clear Hse Hkk HSo0 hm
      have HR1 := hide (HRo.out (by trivial) w3 HG3.out.below)
      have bN3 := HG3.out.blk
      have x0 := bN3.cell 0
      have x1 := bN3.cell 1
      have x2 := bN3.cell 2
      have x3 := bN3.cell 3
      have x4 := bN3.cell 4
      simp [NetM.cells, Mat.val] at x0 x1 x2 x3 x4
      clear bN3
      go_wp2_with fail
      go_at_call 44
      refine HR1.out.mono ?_
      rintro e w4 ⟨⟨u, rfl, hu⟩, hb4⟩
      have HG4 := hide (HG3.out.keep hb4)
      have HU4 := hide hu
      have hsu : y.t.same u.t = true := (((HG3.out.y.ok rfl).psame hu).trans (Net.psame_iff.2 (fun _ _ _ _ => rfl)))
      clear hb4 hu HR1 HG3 x0 x1 x2 x3 x4
      have HS0 := hide (HSo.out (by trivial) w4 HG4.out.below)
      have bN4 := HG4.out.blk
      have x0 := bN4.cell 0
      have x1 := bN4.cell 1
      have x2 := bN4.cell 2
      have x3 := bN4.cell 3
      have x4 := bN4.cell 4
      simp [NetM.cells, Mat.val] at x0 x1 x2 x3 x4
      clear bN4
      go_wp2_with fail
      go_at_call 45
      refine HS0.out.mono ?_
      rintro e w5 ⟨⟨v, rfl, hv⟩, hb5⟩
      have HG5 := hide (HG4.out.keep hb5)
      have HU5 := hide (HU4.out.grown hb5)
      have HV5 := hide hv
      have hsv : z.t.same v.t = true := (((HG4.out.z.ok rfl).psame hv).trans (Net.psame_iff.2 (fun _ _ _ _ => rfl)))
      clear hb5 hv HS0 HG4 HU4 x0 x1 x2 x3 x4
      go_wp2_with fail
      go_at_call 39
      refine (pathBegun_any _).mono ?_
      rintro e w6 ⟨rfl, hb6⟩
      have HG6 := hide (HG5.out.keep hb6)
      have HU6 := hide (HU5.out.grown hb6)
      have HV6 := hide (HV5.out.grown hb6)
      have HP := hide (HPf.out w6 HG6.out.below)
      have bN6 := HG6.out.blk
      have x0 := bN6.cell 0
      have x1 := bN6.cell 1
      have x2 := bN6.cell 2
      have x3 := bN6.cell 3
      have x4 := bN6.cell 4
      simp [NetM.cells, Mat.val] at x0 x1 x2 x3 x4
      clear bN6
      clear hb6 HG5 HU5 HV5
      go_wp2_with fail
      go_at_call 46
      refine HP.out.mono ?_
      rintro e w7 ⟨rfl, hb7⟩
      have HG7 := hide (HG6.out.keep hb7)
      have HU7 := hide (HU6.out.grown hb7)
      have HV7 := hide (HV6.out.grown hb7)
      have HS1 := hide (samePaths_any y u w7 HG7.out.y.mem HU7.out.mem)
      rw [hsu] at HS1
      simp only [RMat.val] at HS1
      clear hb7 HG6 HP x0 x1 x2 x3 x4 HU6 HV6
      go_wp2_with fail
      go_at_call 47
      refine HS1.out.mono ?_
      rintro e w8 ⟨rfl, hb8⟩
      have HG8 := hide (HG7.out.keep hb8)
      have HV8 := hide (HV7.out.grown hb8)
      have HS2 := hide (samePaths_any z v w8 HG8.out.z.mem HV8.out.mem)
      rw [hsv] at HS2
      simp only [RMat.val] at HS2
      clear hb8 HG7 HS1 HU7 HV7
      go_wp2_with fail
      go_at_call 47
      refine HS2.out.mono ?_
      rintro e w9 ⟨rfl, hb9⟩
      have HBf := hide (HG8.out.keep hb9).below
      clear hb9 HG8 HS2 HV8
      go_wp2
      go_ret
      exact ⟨rfl, HBf.out⟩
  · have hf' : (ft == 0) = false := by simp [hf]
    have hse : se = ft := by rw [Hse.out, if_pos hf]
    subst hse
    have hkk : kk = 0 := by rw [Hkk.out, if_neg hf]
    subst hkk
    have hsu : y.t.same nilR.t = true := RTab.same_iff.2 ⟨HG3.out.y.bad hf, fun r hr => by have e : y.len = 0 := HG3.out.y.bad hf; rw [show y.t.len = 0 from e] at hr; exact absurd hr (Nat.not_lt_zero _)⟩
    have hsv : z.t.same nilR.t = true := RTab.same_iff.2 ⟨HG3.out.z.bad hf, fun r hr => by have e : z.len = 0 := HG3.out.z.bad hf; rw [show z.t.len = 0 from e] at hr; exact absurd hr (Nat.not_lt_zero _)⟩
    have HG5 := HG3
    clear HG3 HRo HSo0 Hse Hkk hf
    go_wp2_with fail
    go_at_call 39
    refine (pathBegun_any _).mono ?_
    rintro e w6 ⟨rfl, hb6⟩
    have HG6 := hide (HG5.out.keep hb6)
    have HP := hide (HPf.out w6 HG6.out.below)
    have bN6 := HG6.out.blk
    have x0 := bN6.cell 0
    have x1 := bN6.cell 1
    have x2 := bN6.cell 2
    have x3 := bN6.cell 3
    have x4 := bN6.cell 4
    simp [NetM.cells, Mat.val] at x0 x1 x2 x3 x4
    clear bN6
    clear hb6 HG5
    go_wp2_with fail
    go_at_call 46
    refine HP.out.mono ?_
    rintro e w7 ⟨rfl, hb7⟩
    have HG7 := hide (HG6.out.keep hb7)
    have HS1 := hide (samePaths_any y nilR w7 HG7.out.y.mem (nilR_in _ _))
    rw [hsu] at HS1
    simp only [RMat.val, nilR] at HS1
    clear hb7 HG6 HP x0 x1 x2 x3 x4
    go_wp2_with fail
    go_at_call 47
    refine HS1.out.mono ?_
    rintro e w8 ⟨rfl, hb8⟩
    have HG8 := hide (HG7.out.keep hb8)
    have HS2 := hide (samePaths_any z nilR w8 HG8.out.z.mem (nilR_in _ _))
    rw [hsv] at HS2
    simp only [RMat.val, nilR] at HS2
    clear hb8 HG7 HS1
    go_wp2_with fail
    go_at_call 47
    refine HS2.out.mono ?_
    rintro e w9 ⟨rfl, hb9⟩
    have HBf := hide (HG8.out.keep hb9).below
    clear hb9 HG8 HS2
    go_wp2
    go_ret
    exact ⟨rfl, HBf.out⟩

end Go.Proofs.Ytjhkadffaephmab
