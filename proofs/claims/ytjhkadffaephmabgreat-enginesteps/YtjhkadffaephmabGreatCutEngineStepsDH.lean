/-
  Our own texts, bundled: a claim holds few files.
-/
import Derived.Test.YtjhkadffaephmabGreatCutEngineStepsDG
import Derived.Test.YtjhkadffaephmabGreatCutEngineStepsAF
import Derived.Test.YtjhkadffaephmabGreatCutEngineStepsAC
import Derived.SizedLaws
import Derived.Test.YtjhkadffaephmabGreatCutEngineStepsAD
import Derived.Test.YtjhkadffaephmabGreatCutEngineStepsBJ
/-
  EngineSteps.
-/
namespace Go.Proofs.YtjhkadffaephmabGreat
set_option maxRecDepth 100000
open Go.RowKit

def stepU (x : EngM) (n : Net) (v : Ev) : Int := if x.err n ≠ 0 then x.err n else x.eng.stepErr n v
/-- Step. -/
theorem step_all (n : NetM) (x : EngM) (v : EvM) (w : World) (h : n.In w.heap.size w) (hx : x.In w.heap.size w) (hv : v.In w.heap.size w) :
    Calls Tryz.prog 5 #[n.val, x.val, v.val] w fun r w' => (∃ m : EngM, r = .returned (.tuple #[m.val, .int .i64 (stepU x n.net v.ev)]) ∧ m.In w'.heap.size w' ∧ (stepU x n.net v.ev = 0 → m.err n.net = 0 ∧ m.eng = x.eng.step n.net v.ev) ∧ (stepU x n.net v.ev ≠ 0 → m = zeroM)) ∧ Below w.heap.size w w' := by
  refine (step_any n x v w h hx hv).mono ?_
  rintro r w' ⟨hb, ⟨h1, h2⟩ | ⟨h1, h2, h3⟩ | ⟨h1, h2, m, h3, h4, h5, h6, _⟩⟩
  · have e : stepU x n.net v.ev = x.err n.net := by unfold stepU; rw [if_pos h1]
    rw [e]
    exact ⟨⟨zeroM, h2, zeroM_in _ _, fun h0 => absurd h0 h1, fun _ => rfl⟩, hb⟩
  · have e : stepU x n.net v.ev = x.eng.stepErr n.net v.ev := by unfold stepU; rw [if_neg (by omega)]
    rw [e]
    exact ⟨⟨zeroM, h3, zeroM_in _ _, fun h0 => absurd h0 h2, fun _ => rfl⟩, hb⟩
  · have e : stepU x n.net v.ev = 0 := by unfold stepU; rw [if_neg (by omega)]; exact h2
    rw [e]
    exact ⟨⟨m, h3, h4, fun _ => ⟨h6, h5⟩, fun h0 => absurd rfl h0⟩, hb⟩
/-- New. -/
theorem new_all (n : NetM) (w : World) (h : n.In w.heap.size w) :
    Calls Tryz.prog 6 #[n.val] w fun r w' => (∃ m : EngM, r = .returned (.tuple #[m.val, .int .i64 n.net.check]) ∧ m.In w'.heap.size w' ∧ (n.net.check = 0 → m.err n.net = 0 ∧ m.eng = newE n.net) ∧ (n.net.check ≠ 0 → m = zeroM)) ∧ Below w.heap.size w w' := by
  refine (new_any n w h).mono ?_
  rintro r w' ⟨hb, ⟨h1, h2⟩ | ⟨h1, m, h3, h4, h5, h6⟩⟩
  · exact ⟨⟨zeroM, h2, zeroM_in _ _, fun h0 => absurd h0 h1, fun _ => rfl⟩, hb⟩
  · exact ⟨⟨m, by rw [h1]; exact h3, h4, fun _ => ⟨h5, h6⟩, fun h0 => absurd h1 h0⟩, hb⟩
/-- StepOf. -/
theorem stepOf_all (n : NetM) (x : EngM) (v : EvM) (w : World) (h : n.In w.heap.size w) (hx : x.In w.heap.size w) (hv : v.In w.heap.size w) (he : x.err n.net = 0) (hc : x.bag.bn ≤ x.bag.bc) :
    Calls Tryz.prog 10 #[n.val, x.val, v.val] w fun r w' => (∃ m : EngM, r = .returned (.tuple #[m.val, .int .i64 (x.eng.stepErr n.net v.ev)]) ∧ m.In w'.heap.size w' ∧ m.Apart w' ∧ (x.eng.stepErr n.net v.ev = 0 → m.err n.net = 0 ∧ m.eng = x.eng.step n.net v.ev) ∧ (x.eng.stepErr n.net v.ev ≠ 0 → m = zeroM)) ∧ Below w.heap.size w w' := by
  refine (stepOf_any n x v w h hx hv he hc).mono ?_
  rintro r w' ⟨hb, ⟨h1, h2⟩ | ⟨h1, m', e1, e2, e3, e4, e5, e6⟩⟩
  · exact ⟨⟨zeroM, h2, zeroM_in _ _, fun q _ _ _ _ _ _ _ => zeroM_clear q, fun h0 => absurd h0 h1, fun _ => rfl⟩, hb⟩
  · exact ⟨⟨m', by rw [h1]; exact e1, e2, e6, fun _ => ⟨e4, e3⟩, fun h0 => absurd h1 h0⟩, hb⟩
/-- The boxes of EngineSteps. -/
structure SG (w : World) (n : NetM) (x : EngM) (v : EvM) (my mz : EngM) (qy qz : Nat) (W : World) : Prop where
  below : Below w.heap.size w W
  bn : Blk W w.heap.size n.cells 27
  bx : Blk W (w.heap.size + 1) x.cells 31
  bv : Blk W (w.heap.size + 1 + 1) v.cells 34
  yy : Blk W qy my.cells 31
  zz : Blk W qz mz.cells 31
  hy : my.In W.heap.size W
  hz : mz.In W.heap.size W
theorem SG.keep {w : World} {n : NetM} {x : EngM} {v : EvM} {my mz : EngM} {qy qz : Nat} {W W' : World} (h : SG w n x v my mz qy qz W) (hb : Below W.heap.size W W') : SG w n x v my mz qy qz W' :=
  ⟨h.below.trans (hb.mono h.below.size), h.bn.below hb h.bn.lt, h.bx.below hb h.bx.lt, h.bv.below hb h.bv.lt, h.yy.below hb h.yy.lt, h.zz.below hb h.zz.lt, h.hy.grown hb, h.hz.grown hb⟩
theorem EvM.In.grown {v : EvM} {w w' : World} (h : v.In w.heap.size w) (hb : Below w.heap.size w w') : v.In w'.heap.size w' := (h.below hb (Nat.le_refl _)).mono hb.size

set_option maxHeartbeats 8000000 in
theorem engineSteps_any (n : NetM) (x : EngM) (v : EvM) (w : World) (h : n.In w.heap.size w) (hx : x.In w.heap.size w) (hcap : x.bag.bn ≤ x.bag.bc) (hv : v.In w.heap.size w) :
    Calls Tryz.prog 3 #[n.val, x.val, v.val] w fun r w' => r = .returned (.bool true) ∧ Below w.heap.size w w' := by
  obtain ⟨W0, hW0⟩ : ∃ W0, W0 = ((w.alloc (.cells n.cells 27)).alloc (.cells x.cells 31)).alloc (.cells v.cells 34) := ⟨_, rfl⟩
  have hB0 : Below w.heap.size w W0 := by rw [hW0]; exact (((Below.refl _ w).alloc (Nat.le_refl _) _).alloc (by simp) _).alloc (by simp; omega) _
  have Hn0 : Hid (Blk W0 w.heap.size n.cells 27) := hide (by rw [hW0]; exact ((Blk.new w _ _).alloc _).alloc _)
  have Hx0 : Hid (Blk W0 (w.heap.size + 1) x.cells 31) := hide (by rw [hW0]; exact (Blk.new' (by simp)).alloc _)
  have Hv0 : Hid (Blk W0 (w.heap.size + 1 + 1) v.cells 34) := hide (by rw [hW0]; exact Blk.new' (by simp))
  have HP := hide (step_all n x v W0 (h.grown hB0) (hx.grown hB0) (hv.grown hB0))
  have HNw := hide (fun W (hb : Below w.heap.size w W) => new_all n W (h.grown hb))
  have HRn := hide (fun W (hb : Below w.heap.size w W) => refNet_any n W (h.grown hb))
  have HRc := hide (fun W (hb : Below w.heap.size w W) => refChk_any n x W (h.grown hb) (hx.grown hb))
  have HCk := hide (fun W (hb : Below w.heap.size w W) => engineCheck_any n x W (h.grown hb) (hx.grown hb))
  have HSo := hide (fun W (hb : Below w.heap.size w W) he => stepOf_all n x v W (h.grown hb) (hx.grown hb) (hv.grown hb) he hcap)
  have HNo := hide (fun W hc => newOf_any n W hc)
  unfold NewRef at HNo
  have hce : x.err n.net = 0 → n.net.check = 0 := fun this => by
    unfold EngM.err at this
    split at this
    · next h1 => exact absurd this h1
    · next h1 => omega
  have hlo : n.net.check = 0 → ∃ N : Nat, n.net.nodes = N := fun hck => ⟨n.net.nodes.toNat, by have := (Net.good_of_check hck).lo; omega⟩
  obtain ⟨U, hU⟩ : ∃ U, U = stepU x n.net v.ev := ⟨_, rfl⟩
  obtain ⟨er, her⟩ : ∃ er, er = x.err n.net := ⟨_, rfl⟩
  obtain ⟨ck, hck⟩ : ∃ ck, ck = n.net.check := ⟨_, rfl⟩
  obtain ⟨se, hse⟩ : ∃ se, se = x.eng.stepErr n.net v.ev := ⟨_, rfl⟩
  rw [← hU] at HP
  rw [← hck] at HNw HRn hce hlo
  rw [← her] at HRc HCk HSo hce
  rw [← hse] at HSo
  have hck' : n.net.check = ck := hck.symm
  have HU : Hid (U = if er ≠ 0 then er else se) := hide (by rw [hU, her, hse]; rfl)
  have Hce := hide hce
  have Hlo := hide hlo
  have Hck := hide hck'
  have HB0 := hide hB0
  simp only [NetM.val, NetM.cells, Mat.val, EngM.val, EngM.cells, EvM.val, EvM.cells] at HP HNw HRn HRc HCk HSo HNo hW0 ⊢
  rw [hW0] at HP
  have HW0 := hide hW0
  clear h hx hv hcap hB0 hW0 hU her hck hck' hse hce hlo
  go_enter Tryz.func3, Tryz.ntmps3
  go_wp2_with fail
  go_at_call 5
  refine HP.out.mono ?_
  rw [← HW0.out]
  rintro r W1 ⟨⟨my, rfl, hy, hy0, hy1⟩, hb1⟩
  obtain ⟨qy, hqy⟩ : ∃ qy, qy = W1.heap.size := ⟨_, rfl⟩
  obtain ⟨W2, hW2⟩ : ∃ W2, W2 = W1.alloc (.cells my.cells 31) := ⟨_, rfl⟩
  have hb02 : Below W0.heap.size W0 W2 := by rw [hW2]; exact hb1.alloc hb1.size _
  have hb12 : Below W1.heap.size W1 W2 := by rw [hW2]; exact (Below.refl _ W1).alloc (Nat.le_refl _) _
  have Hn2 := hide (Hn0.out.below hb02 Hn0.out.lt)
  have Hx2 := hide (Hx0.out.below hb02 Hx0.out.lt)
  have Hv2 := hide (Hv0.out.below hb02 Hv0.out.lt)
  have Hy2 : Hid (Blk W2 qy my.cells 31) := hide (by rw [hW2]; exact Blk.new' hqy)
  have Hym := hide (hy.grown hb12)
  have HB2 := hide (HB0.out.trans (hb02.mono HB0.out.size))
  have Hy0 := hide hy0
  have Hy1 := hide hy1
  have HC := hide (HNw.out W2 HB2.out)
  have n0 := Hn2.out.cell 0
  have n1 := Hn2.out.cell 1
  have n2 := Hn2.out.cell 2
  have n3 := Hn2.out.cell 3
  have n4 := Hn2.out.cell 4
  simp [NetM.cells, Mat.val] at n0 n1 n2 n3 n4
  simp only [EngM.cells] at hW2
  rw [hW2] at HC n0 n1 n2 n3 n4
  have HW2 := hide hW2
  have Hqy := hide hqy
  clear hy hy0 hy1 hb1 hqy hW2 hb02 hb12 HP Hn0 Hx0 Hv0 HNw
  go_wp2_with fail
  go_at_call 6
  refine HC.out.mono ?_
  rw [← HW2.out, ← Hqy.out]
  rintro r W3 ⟨⟨mz, rfl, hz, hz0, hz1⟩, hb3⟩
  obtain ⟨qz, hqz⟩ : ∃ qz, qz = W3.heap.size := ⟨_, rfl⟩
  obtain ⟨W4, hW4⟩ : ∃ W4, W4 = W3.alloc (.cells mz.cells 31) := ⟨_, rfl⟩
  have hb24 : Below W2.heap.size W2 W4 := by rw [hW4]; exact hb3.alloc hb3.size _
  have hb34 : Below W3.heap.size W3 W4 := by rw [hW4]; exact (Below.refl _ W3).alloc (Nat.le_refl _) _
  have HG4 : Hid (SG w n x v my mz qy qz W4) := hide ⟨HB2.out.trans (hb24.mono HB2.out.size), Hn2.out.below hb24 Hn2.out.lt, Hx2.out.below hb24 Hx2.out.lt, Hv2.out.below hb24 Hv2.out.lt, Hy2.out.below hb24 Hy2.out.lt, by rw [hW4]; exact Blk.new' hqz, Hym.out.grown hb24, hz.grown hb34⟩
  have Hz0 := hide hz0
  have Hz1 := hide hz1
  simp only [EngM.cells] at hW4
  have HW4 := hide hW4
  have Hqz := hide hqz
  clear hz hz0 hz1 hb3 hqz hW4 hb24 hb34 HC Hn2 Hx2 Hv2 Hy2 Hym HB2 n0 n1 n2 n3 n4
  go_wp2_with fail
  rw [← HW4.out, ← Hqz.out]
  refine wp_region_only (fun W => SG w n x v my mz qy qz W) (valsE [.agg #[.int .i64 n.a.size, .slice n.a.B.ga n.a.B.t.len n.a.B.cap, .slice n.a.E.ga n.a.E.t.len n.a.E.cap, .int .i64 n.nodes, .slice n.la n.ln n.lc], .int .i64 ck, .agg #[.int .i64 n.a.size, .slice n.a.B.ga n.a.B.t.len n.a.B.cap, .slice n.a.E.ga n.a.E.t.len n.a.E.cap, .int .i64 n.nodes, .slice n.la n.ln n.lc], .agg #[.slice x.rs.ga x.rs.gn x.rs.gc, .slice x.bag.ba x.bag.bn x.bag.bc], .int .i64 er, .int .i64 ck, .int .i64 er]) (by kernel_rfl) (by kernel_rfl) (by kernel_rfl) (HG4.out.keep ⟨rfl, rfl, rfl, Nat.le_refl _, fun _ _ => rfl⟩) ⟨?_, ?_, ?_, ?_, ?_, ?_, ?_, trivial⟩ ?_
  rotate_right
  · intro t W hG hE
    have e5 := valsE_get (hE 5 (by decide)) rfl
    have e6 := valsE_get (hE 6 (by decide)) rfl
    have HG' := hide hG
    clear hE hG
    simp only [fill, Act.put, List.setIfInBounds_toArray, List.set_cons_zero, List.set_cons_succ, e5, e6]
    clear e5 e6
    have HG5 := HG'
    have HC2 := hide (HCk.out W HG5.out.below)
    have n0 := HG5.out.bn.cell 0
    have n1 := HG5.out.bn.cell 1
    have n2 := HG5.out.bn.cell 2
    have n3 := HG5.out.bn.cell 3
    have n4 := HG5.out.bn.cell 4
    have x0 := HG5.out.bx.cell 0
    have x1 := HG5.out.bx.cell 1
    simp [NetM.cells, Mat.val] at n0 n1 n2 n3 n4
    simp [EngM.cells] at x0 x1
    go_wp2_with fail
    go_at_call 9
    refine HC2.out.mono ?_
    rintro r W5 ⟨rfl, hb5⟩
    have HG5' := hide (HG5.out.keep hb5)
    clear HG5 HG'
    have HG5 := HG5'
    clear HG5'
    obtain ⟨qa, hqa⟩ : ∃ qa, qa = W5.heap.size := ⟨_, rfl⟩
    obtain ⟨W6, hW6⟩ : ∃ W6, W6 = (W5.alloc (.cells #[.slice none 0 0, .slice none 0 0] 31)).alloc (.cells #[.slice none 0 0, .slice none 0 0] 31) := ⟨_, rfl⟩
    have hb56 : Below W5.heap.size W5 W6 := by rw [hW6]; exact ((Below.refl _ W5).alloc (Nat.le_refl _) _).alloc (by simp) _
    have Ha6 : Hid (Blk W6 qa #[.slice none 0 0, .slice none 0 0] 31) := hide (by rw [hW6, hqa]; exact (Blk.new W5 _ _).alloc _)
    have Hb6 : Hid (Blk W6 (qa + 1) #[.slice none 0 0, .slice none 0 0] 31) := hide (by rw [hW6, hqa]; exact Blk.new' (by simp))
    have Hb56 := hide hb56
    have HG6 := hide (HG5.out.keep hb56)
    have HW6 := hide hW6
    have Hqa := hide hqa
    have Hwa : Hid (w.heap.size + 3 ≤ qa) := hide (by have := HG5.out.bv.lt; omega)
    clear hb5 hqa hW6 hb56 HC2 HW4 HW2 HW0 HG4 n0 n1 n2 n3 n4 x0 x1
    by_cases hck0 : ck = 0
    rotate_left
    · have her0 : er ≠ 0 := fun h0 => hck0 (Hce.out h0)
      have hU : U = er := by rw [HU.out, if_pos her0]
      subst hU
      have hU0 := her0
      have hV0 := hck0
      have he' : (U == 0) = false := by simpa using her0
      have hc' : (ck == 0) = false := by simpa using hck0
      have HG8 := HG6
      have Ha8 := Ha6
      have Hb8 := Hb6
      have HW8 := HW6
      have Hb58 := Hb56
      have HG10 := HG8
      have Ha10 := Ha8
      have Hb10 := Hb8
      have HC := hide (engineBegun_any W6)
      rw [HW6.out] at HC
      go_wp2_with fail
      go_at_call 12
      refine HC.out.mono ?_
      rw [← HW6.out, ← Hqa.out]
      rintro r W11 ⟨rfl, hb11⟩
      have HG11 := hide (HG10.out.keep hb11)
      have Ha11 := hide (Ha10.out.below hb11 Ha10.out.lt)
      have Hb11 := hide (Hb10.out.below hb11 Hb10.out.lt)
      have y0 := HG11.out.yy.cell 0
      have y1 := HG11.out.yy.cell 1
      have a0 := Ha11.out.cell 0
      have a1 := Ha11.out.cell 1
      simp [EngM.cells] at y0 y1 a0 a1
      have HCi := hide (engineIs_zero my (Hy1.out hU0) U W11 hU0)
      clear hb11 HC
      go_wp2_with fail
      go_at_call 13
      refine HCi.out.mono ?_
      rintro r W12 ⟨rfl, hb12⟩
      have HG12 := hide (HG11.out.keep hb12)
      have Hb12 := hide (Hb11.out.below hb12 Hb11.out.lt)
      clear y0 y1 a0 a1
      have z0 := HG12.out.zz.cell 0
      have z1 := HG12.out.zz.cell 1
      have d0 := Hb12.out.cell 0
      have d1 := Hb12.out.cell 1
      simp [EngM.cells] at z0 z1 d0 d1
      have HCj := hide (engineIs_zero mz (Hz1.out hV0) ck W12 hV0)
      clear hb12 HCi
      go_wp2_with fail
      go_at_call 13
      refine HCj.out.mono ?_
      rintro r W13 ⟨rfl, hb13⟩
      have HF := hide (HG12.out.below.trans (hb13.mono HG12.out.below.size))
      clear hb13 HCj
      go_wp2
      go_ret
      exact ⟨rfl, HF.out⟩
    obtain ⟨N, hNn⟩ := Hlo.out hck0
    subst hck0
    by_cases her0 : er = 0
    rotate_left
    · have hU : U = er := by rw [HU.out, if_pos her0]
      subst hU
      have hU0 := her0
      have he' : (U == 0) = false := by simpa using her0
      have HG8 := HG6
      have Ha8 := Ha6
      have Hb8 := Hb6
      have HW8 := HW6
      have Hb58 := Hb56
      have HC := hide (HNo.out W6 Hck.out)
      have n0 := HG8.out.bn.cell 0
      have n1 := HG8.out.bn.cell 1
      have n2 := HG8.out.bn.cell 2
      have n3 := HG8.out.bn.cell 3
      have n4 := HG8.out.bn.cell 4
      have x0 := HG8.out.bx.cell 0
      have x1 := HG8.out.bx.cell 1
      simp [NetM.cells, Mat.val] at n0 n1 n2 n3 n4
      simp [EngM.cells] at x0 x1
      rw [HW6.out] at HC n0 n1 n2 n3 n4 x0 x1
      go_wp2_with fail
      go_at_call 11
      refine HC.out.mono ?_
      rw [← HW6.out, ← Hqa.out]
      rintro r W9 ⟨hbn, m9, rfl, hm9, hr9, he9, hf9⟩
      have hcz := hf9.clear Hb8.out.lt
      have ha10 := Ha8.out.below hbn Ha8.out.lt
      have hb10 := Hb8.out.below hbn Hb8.out.lt
      obtain ⟨W10, hW10⟩ : ∃ W10, W10 = (W9.setCell ⟨qa + 1, 0, none⟩ (.slice m9.rs.ga m9.rs.gn m9.rs.gc)).setCell ⟨qa + 1, 1, none⟩ (.slice m9.bag.ba m9.bag.bn m9.bag.bc) := ⟨_, rfl⟩
      have Hb510 : Hid (Below W5.heap.size W5 W10) := hide (by rw [hW10]; exact (((Hb58.out.trans (hbn.mono Hb58.out.size)).setCell (p := ⟨qa + 1, 0, none⟩) (by rw [Hqa.out]; show W5.heap.size ≤ W5.heap.size + 1; omega) _).setCell (p := ⟨qa + 1, 1, none⟩) (by rw [Hqa.out]; show W5.heap.size ≤ W5.heap.size + 1; omega) _))
      have Ha10 := hide (show Blk W10 qa _ _ by rw [hW10]; exact (ha10.other (by omega) _ _).other (by omega) _ _)
      have Hb10 : Hid (Blk W10 (qa + 1) m9.cells 31) := hide (by rw [hW10]; exact hb10.set2 _ _)
      have Hn10 : Hid (m9.In W10.heap.size W10) := hide (by rw [hW10]; simpa using (hm9.set hcz 0 _).set hcz 1 _)
      have He9 := hide he9
      have Hr9 := hide hr9
      have t0 := hb10.cell 0
      have t1 := hb10.cell 1
      have g0 := hb10.frozen 0
      have g1 := hb10.frozen 1
      simp at t0 t1
      have HG10 := hide (HG5.out.keep Hb510.out)
      have HW10 := hide hW10
      clear hbn hm9 hr9 he9 hf9 hcz ha10 hb10 HC hW10 HNo n0 n1 n2 n3 n4 x0 x1
      have HC := hide (engineBegun_any W10)
      rw [HW10.out] at HC
      go_wp2_with fail
      go_at_call 12
      refine HC.out.mono ?_
      rw [← HW10.out]
      rintro r W11 ⟨rfl, hb11⟩
      have HG11 := hide (HG10.out.keep hb11)
      have Ha11 := hide (Ha10.out.below hb11 Ha10.out.lt)
      have Hb11 := hide (Hb10.out.below hb11 Hb10.out.lt)
      have y0 := HG11.out.yy.cell 0
      have y1 := HG11.out.yy.cell 1
      have a0 := Ha11.out.cell 0
      have a1 := Ha11.out.cell 1
      simp [EngM.cells] at y0 y1 a0 a1
      have HCi := hide (engineIs_zero my (Hy1.out hU0) U W11 hU0)
      have Hn11 := hide (Hn10.out.grown hb11)
      clear hb11 HC
      go_wp2_with fail
      go_at_call 13
      refine HCi.out.mono ?_
      rintro r W12 ⟨rfl, hb12⟩
      have HG12 := hide (HG11.out.keep hb12)
      have Hb12 := hide (Hb11.out.below hb12 Hb11.out.lt)
      clear y0 y1 a0 a1
      have z0 := HG12.out.zz.cell 0
      have z1 := HG12.out.zz.cell 1
      have d0 := Hb12.out.cell 0
      have d1 := Hb12.out.cell 1
      simp [EngM.cells] at z0 z1 d0 d1
      have HCj := hide (engineIs_same mz m9 W12 HG12.out.hz (Hn11.out.grown hb12) (EngM.same_of (EngM.right (Hz0.out (by trivial)).1 hNn) (EngM.right Hr9.out hNn) ((Hz0.out (by trivial)).2.trans He9.out.symm)))
      simp only [EngM.val, EngM.cells] at HCj
      clear hb12 HCi
      go_wp2_with fail
      go_at_call 13
      refine HCj.out.mono ?_
      rintro r W13 ⟨rfl, hb13⟩
      have HF := hide (HG12.out.below.trans (hb13.mono HG12.out.below.size))
      clear hb13 HCj
      go_wp2
      go_ret
      exact ⟨rfl, HF.out⟩
    have hU : U = se := by rw [HU.out, if_neg (by simpa using her0)]
    subst hU
    subst her0
    have HC := hide (HSo.out W6 HG6.out.below rfl)
    have n0 := HG6.out.bn.cell 0
    have n1 := HG6.out.bn.cell 1
    have n2 := HG6.out.bn.cell 2
    have n3 := HG6.out.bn.cell 3
    have n4 := HG6.out.bn.cell 4
    have x0 := HG6.out.bx.cell 0
    have x1 := HG6.out.bx.cell 1
    have v0 := HG6.out.bv.cell 0
    have v1 := HG6.out.bv.cell 1
    have v2 := HG6.out.bv.cell 2
    have v3 := HG6.out.bv.cell 3
    have v4 := HG6.out.bv.cell 4
    simp [NetM.cells, Mat.val] at n0 n1 n2 n3 n4
    simp [EngM.cells] at x0 x1
    simp [EvM.cells] at v0 v1 v2 v3 v4
    rw [HW6.out] at HC n0 n1 n2 n3 n4 x0 x1 v0 v1 v2 v3 v4
    go_wp2_with fail
    go_at_call 10
    refine HC.out.mono ?_
    rw [← HW6.out, ← Hqa.out]
    rintro r W7 ⟨⟨m5, rfl, hm5, hap, he5, hz5⟩, hbm⟩
    have ha7 := Ha6.out.below hbm Ha6.out.lt
    have hb7 := Hb6.out.below hbm Hb6.out.lt
    have hca := hap _ _ _ _ _ _ _ ha7
    have hcb := hap _ _ _ _ _ _ _ hb7
    obtain ⟨W8, hW8⟩ : ∃ W8, W8 = (W7.setCell ⟨qa, 0, none⟩ (.slice m5.rs.ga m5.rs.gn m5.rs.gc)).setCell ⟨qa, 1, none⟩ (.slice m5.bag.ba m5.bag.bn m5.bag.bc) := ⟨_, rfl⟩
    have Hb58 : Hid (Below W5.heap.size W5 W8) := hide (by rw [hW8]; exact (((Hb56.out.trans (hbm.mono Hb56.out.size)).setCell (p := ⟨qa, 0, none⟩) (by rw [Hqa.out]; exact Nat.le_refl _) _).setCell (p := ⟨qa, 1, none⟩) (by rw [Hqa.out]; exact Nat.le_refl _) _))
    have Ha8 : Hid (Blk W8 qa m5.cells 31) := hide (by rw [hW8]; exact ha7.set2 _ _)
    have Hb8 : Hid (Blk W8 (qa + 1) #[.slice none 0 0, .slice none 0 0] 31) := hide (by rw [hW8]; exact (hb7.other (by omega) _ _).other (by omega) _ _)
    have Hm8 : Hid (m5.In W8.heap.size W8) := hide (by rw [hW8]; simpa using (hm5.set hca 0 _).set hca 1 _)
    have Hcb := hide hcb
    have He5 := hide he5
    have Hz5 := hide hz5
    have s0 := ha7.cell 0
    have s1 := ha7.cell 1
    have f0 := ha7.frozen 0
    have f1 := ha7.frozen 1
    simp at s0 s1
    have HG8 := hide (HG5.out.keep Hb58.out)
    have HW8 := hide hW8
    clear hm5 hap he5 hz5 hbm hca hcb ha7 hb7 HC hW8 HSo n0 n1 n2 n3 n4 x0 x1 v0 v1 v2 v3 v4
    have HC := hide (HNo.out W8 Hck.out)
    have n0 := HG8.out.bn.cell 0
    have n1 := HG8.out.bn.cell 1
    have n2 := HG8.out.bn.cell 2
    have n3 := HG8.out.bn.cell 3
    have n4 := HG8.out.bn.cell 4
    have x0 := HG8.out.bx.cell 0
    have x1 := HG8.out.bx.cell 1
    simp [NetM.cells, Mat.val] at n0 n1 n2 n3 n4
    simp [EngM.cells] at x0 x1
    rw [HW8.out] at HC n0 n1 n2 n3 n4 x0 x1
    go_wp2_with fail
    go_at_call 11
    refine HC.out.mono ?_
    rw [← HW8.out]
    rintro r W9 ⟨hbn, m9, rfl, hm9, hr9, he9, hf9⟩
    have hcz := hf9.clear Hb8.out.lt
    have ha10 := Ha8.out.below hbn Ha8.out.lt
    have hb10 := Hb8.out.below hbn Hb8.out.lt
    obtain ⟨W10, hW10⟩ : ∃ W10, W10 = (W9.setCell ⟨qa + 1, 0, none⟩ (.slice m9.rs.ga m9.rs.gn m9.rs.gc)).setCell ⟨qa + 1, 1, none⟩ (.slice m9.bag.ba m9.bag.bn m9.bag.bc) := ⟨_, rfl⟩
    have Hb510 : Hid (Below W5.heap.size W5 W10) := hide (by rw [hW10]; exact (((Hb58.out.trans (hbn.mono Hb58.out.size)).setCell (p := ⟨qa + 1, 0, none⟩) (by rw [Hqa.out]; show W5.heap.size ≤ W5.heap.size + 1; omega) _).setCell (p := ⟨qa + 1, 1, none⟩) (by rw [Hqa.out]; show W5.heap.size ≤ W5.heap.size + 1; omega) _))
    have Ha10 := hide (show Blk W10 qa _ _ by rw [hW10]; exact (ha10.other (by omega) _ _).other (by omega) _ _)
    have Hb10 : Hid (Blk W10 (qa + 1) m9.cells 31) := hide (by rw [hW10]; exact hb10.set2 _ _)
    have Hn10 : Hid (m9.In W10.heap.size W10) := hide (by rw [hW10]; simpa using (hm9.set hcz 0 _).set hcz 1 _)
    have Hm10 : Hid (m5.In W10.heap.size W10) := hide (by rw [hW10]; simpa using ((Hm8.out.grown hbn).set Hcb.out 0 _).set Hcb.out 1 _)
    have He9 := hide he9
    have Hr9 := hide hr9
    have t0 := hb10.cell 0
    have t1 := hb10.cell 1
    have g0 := hb10.frozen 0
    have g1 := hb10.frozen 1
    simp at t0 t1
    have HG10 := hide (HG5.out.keep Hb510.out)
    have HW10 := hide hW10
    clear hbn hm9 hr9 he9 hf9 hcz ha10 hb10 HC hW10 HNo n0 n1 n2 n3 n4 x0 x1
    have HC := hide (engineBegun_any W10)
    rw [HW10.out] at HC
    go_wp2_with fail
    go_at_call 12
    refine HC.out.mono ?_
    rw [← HW10.out]
    rintro r W11 ⟨rfl, hb11⟩
    have HG11 := hide (HG10.out.keep hb11)
    have Ha11 := hide (Ha10.out.below hb11 Ha10.out.lt)
    have Hb11 := hide (Hb10.out.below hb11 Hb10.out.lt)
    have y0 := HG11.out.yy.cell 0
    have y1 := HG11.out.yy.cell 1
    have a0 := Ha11.out.cell 0
    have a1 := Ha11.out.cell 1
    simp [EngM.cells] at y0 y1 a0 a1
    have HCi : Hid (Calls Tryz.prog 13 #[my.val, .int .i64 U, .int .i64 U, m5.val] W11 fun r w' => r = .returned (.bool true) ∧ Below W11.heap.size W11 w') := hide (by
      by_cases hs0 : U = 0
      · have h1 := Hy0.out hs0
        have h2 := He5.out hs0
        rw [hs0]
        exact engineIs_same my m5 W11 HG11.out.hy (Hm10.out.grown hb11) (EngM.same_of (EngM.right h1.1 hNn) (EngM.right h2.1 hNn) (h1.2.trans h2.2.symm))
      · have h1 := Hy1.out hs0
        rw [h1]
        exact engineIs_none U m5 W11 hs0)
    simp only [EngM.val, EngM.cells] at HCi
    have Hn11 := hide (Hn10.out.grown hb11)
    clear hb11 HC
    go_wp2_with fail
    go_at_call 13
    refine HCi.out.mono ?_
    rintro r W12 ⟨rfl, hb12⟩
    have HG12 := hide (HG11.out.keep hb12)
    have Hb12 := hide (Hb11.out.below hb12 Hb11.out.lt)
    clear y0 y1 a0 a1
    have z0 := HG12.out.zz.cell 0
    have z1 := HG12.out.zz.cell 1
    have d0 := Hb12.out.cell 0
    have d1 := Hb12.out.cell 1
    simp [EngM.cells] at z0 z1 d0 d1
    have HCj := hide (engineIs_same mz m9 W12 HG12.out.hz (Hn11.out.grown hb12) (EngM.same_of (EngM.right (Hz0.out (by trivial)).1 hNn) (EngM.right Hr9.out hNn) ((Hz0.out (by trivial)).2.trans He9.out.symm)))
    simp only [EngM.val, EngM.cells] at HCj
    clear hb12 HCi
    go_wp2_with fail
    go_at_call 13
    refine HCj.out.mono ?_
    rintro r W13 ⟨rfl, hb13⟩
    have HF := hide (HG12.out.below.trans (hb13.mono HG12.out.below.size))
    clear hb13 HCj
    go_wp2
    go_ret
    exact ⟨rfl, HF.out⟩
  all_goals intro t W hG hp K hK
  all_goals simp only [fill, Act.put, List.setIfInBounds_toArray, List.set_cons_zero, List.set_cons_succ] at hK ⊢
  · have n0 := hG.bn.cell 0
    have n1 := hG.bn.cell 1
    have n2 := hG.bn.cell 2
    have n3 := hG.bn.cell 3
    have n4 := hG.bn.cell 4
    simp [NetM.cells, Mat.val] at n0 n1 n2 n3 n4
    rw [if_pos (by rfl)]
    go_simp
    exact hK _ _ hG rfl (fun _ _ _ h => h)
  · have e0 := valsE_get (hp 0 (by decide)) rfl
    have HC := hide (HRn.out W hG.below)
    simp only [e0] at hK ⊢
    rw [if_pos (by rfl)]
    go_simp
    go_at_call 7
    refine HC.out.mono ?_
    rintro r W1 ⟨rfl, hb1⟩
    go_simp
    exact hK _ _ (hG.keep hb1) rfl (fun _ _ _ h => h)
  · have n0 := hG.bn.cell 0
    have n1 := hG.bn.cell 1
    have n2 := hG.bn.cell 2
    have n3 := hG.bn.cell 3
    have n4 := hG.bn.cell 4
    simp [NetM.cells, Mat.val] at n0 n1 n2 n3 n4
    rw [if_pos (by rfl)]
    go_simp
    exact hK _ _ hG rfl (fun _ _ _ h => h)
  · have x0 := hG.bx.cell 0
    have x1 := hG.bx.cell 1
    simp [EngM.cells] at x0 x1
    rw [if_pos (by rfl)]
    go_simp
    exact hK _ _ hG rfl (fun _ _ _ h => h)
  · have e2 := valsE_get (hp 2 (by decide)) rfl
    have e3 := valsE_get (hp 3 (by decide)) rfl
    have HC := hide (HRc.out W hG.below)
    simp only [e2, e3] at hK ⊢
    rw [if_pos (by rfl)]
    go_simp
    go_at_call 8
    refine HC.out.mono ?_
    rintro r W1 ⟨rfl, hb1⟩
    go_simp
    exact hK _ _ (hG.keep hb1) rfl (fun _ _ _ h => h)
  · have e1 := valsE_get (hp 1 (by decide)) rfl
    simp only [e1] at hK ⊢
    rw [if_pos (by rfl)]
    go_simp
    exact hK _ _ hG rfl (fun _ _ _ h => h)
  · have e4 := valsE_get (hp 4 (by decide)) rfl
    simp only [e4] at hK ⊢
    rw [if_pos (by rfl)]
    go_simp
    exact hK _ _ hG rfl (fun _ _ _ h => h)

end Go.Proofs.YtjhkadffaephmabGreat

/-
  A net as it came, out of its reading.
-/
namespace Go.Proofs.YtjhkadffaephmabGreat
set_option maxRecDepth 100000
open Go.RowKit Go.ChangeShapes Go.WideShapes Go.Joins Go.Deep

theorem Tryz.cells27 : Tryz.prog.cellsOf 27 = 5 := by kernel_rfl
theorem Tryz.cells65 : Tryz.prog.cellsOf 65 = 3 := by kernel_rfl
theorem Tryz.cells25 : Tryz.prog.cellsOf 25 = 1 := by kernel_rfl

section
variable {H : Type} {enc : TypeId × Value → H} {W : World}

theorem open_alg_cells {n : Nat} {cs : List Value} {y : DataW H × List MemPlace} (h : DataW.trod enc Tryz.prog W 0 (fun _ => true) true n 24 cs = some y) :
    ∃ a : AlgM, cs = [.int .i64 a.size, a.B.val, a.E.val] ∧ a.In W.heap.size W := by
  obtain ⟨xs, n1, rfl, rfl, hlc, hlen, hfs⟩ := DataW.trod_struct Tryz.underlying24 h
  rw [Tryz.cells24] at hlc
  match cs, hlc, xs, hlen with
  | [c0, c1, c2], _, [y0, y1, y2], _ =>
    have k0 := hfs 0 _ rfl
    have k1 := hfs 1 _ rfl
    have k2 := hfs 2 _ rfl
    simp [Tryz.cells3, Tryz.cells22] at k0 k1 k2
    obtain ⟨s, e0, _, _⟩ := DataW.trod_int Tryz.underlying3 k0
    simp at e0
    subst e0
    obtain ⟨B, rfl, hB⟩ := open_mat k1
    obtain ⟨E, rfl, hE⟩ := open_mat k2
    exact ⟨⟨s, B, E⟩, rfl, hB, hE⟩

theorem open_link_cells {n : Nat} {cs : List Value} {y : DataW H × List MemPlace} (h : DataW.trod enc Tryz.prog W 0 (fun _ => true) true n 65 cs = some y) :
    ∃ f t e : Int, cs = [.int .i64 f, .int .i64 t, .int .i64 e] := by
  obtain ⟨xs, n1, rfl, rfl, hlc, hlen, hfs⟩ := DataW.trod_struct Tryz.underlying65 h
  rw [Tryz.cells65] at hlc
  match cs, hlc, xs, hlen with
  | [c0, c1, c2], _, [y0, y1, y2], _ =>
    have k0 := hfs 0 _ rfl
    have k1 := hfs 1 _ rfl
    have k2 := hfs 2 _ rfl
    simp [Tryz.cells3] at k0 k1 k2
    obtain ⟨a0, e0, _, _⟩ := DataW.trod_int Tryz.underlying3 k0
    obtain ⟨a1, e1, _, _⟩ := DataW.trod_int Tryz.underlying3 k1
    obtain ⟨a2, e2, _, _⟩ := DataW.trod_int Tryz.underlying3 k2
    simp at e0 e1 e2
    subst e0 e1 e2
    exact ⟨a0, a1, a2, rfl⟩

theorem open_links {n : Nat} {v : Value} {y : DataW H × List MemPlace} (h : DataW.trod enc Tryz.prog W 0 (fun _ => true) true n 25 [v] = some y) :
    ∃ (la : Option Addr) (ln lc lb lo : Nat) (F T E : Nat → Int), v = .slice la ln lc ∧ (0 < ln → la = some ⟨lb, lo, none⟩) ∧ (0 < ln → lb < W.heap.size) ∧
      (∀ i, i < ln → W.cell? ⟨lb, lo + i * 3, none⟩ = some (.int .i64 (F i))) ∧ (∀ i, i < ln → W.cell? ⟨lb, lo + i * 3 + 1, none⟩ = some (.int .i64 (T i))) ∧ (∀ i, i < ln → W.cell? ⟨lb, lo + i * 3 + 2, none⟩ = some (.int .i64 (E i))) ∧ ln ≤ maxLen := by
  rcases DataW.trod_slice Tryz.underlying25 h with ⟨hcs, _⟩ | ⟨a, len, cap, elems, rest, n2, hn, hcs, hy, _, hl, hm, hel, hat, hsp, _⟩
  · simp at hcs
    exact ⟨none, 0, 0, 0, 0, fun _ => 0, fun _ => 0, fun _ => 0, hcs, fun h => absurd h (Nat.not_lt_zero _), fun h => absurd h (Nat.not_lt_zero _), fun _ h => absurd h (Nat.not_lt_zero _), fun _ h => absurd h (Nat.not_lt_zero _), fun _ h => absurd h (Nat.not_lt_zero _), Nat.zero_le _⟩
  · simp at hcs
    obtain ⟨gb, go, gs⟩ := a
    rcases Nat.eq_zero_or_pos len with hl0 | hlp
    · subst hl0
      exact ⟨_, 0, cap, 0, 0, fun _ => 0, fun _ => 0, fun _ => 0, hcs, fun h => absurd h (Nat.not_lt_zero _), fun h => absurd h (Nat.not_lt_zero _), fun _ h => absurd h (Nat.not_lt_zero _), fun _ h => absurd h (Nat.not_lt_zero _), fun _ h => absurd h (Nat.not_lt_zero _), Nat.zero_le _⟩
    · have each : ∀ i, i < len → ∃ cs', W.cells? 0 ((⟨gb, go, gs⟩ : Addr).add (i * 3)) 3 = some cs' ∧ ∃ f t e : Int, cs' = [.int .i64 f, .int .i64 t, .int .i64 e] := fun i hi => by
        have := hat i hi
        rw [Tryz.cells65, List.getElem?_eq_getElem (by omega)] at this
        obtain ⟨cs', h1, h2⟩ := Option.bind_eq_some_iff.1 this
        exact ⟨cs', h1, open_link_cells h2⟩
      have hgs : gs = none := by
        obtain ⟨cs', h1, f, t, e, h2⟩ := each 0 hlp
        have := (World.cells?_some h1).2.2 0 (by omega)
        rw [h2] at this
        simpa [Addr.add] using World.cell?_spot this
      subst hgs
      obtain ⟨P, hP⟩ := choose_lt (α := Int × Int × Int) (n := len) (p := fun i p => W.cell? ⟨gb, go + i * 3, none⟩ = some (.int .i64 p.1) ∧ W.cell? ⟨gb, go + i * 3 + 1, none⟩ = some (.int .i64 p.2.1) ∧ W.cell? ⟨gb, go + i * 3 + 2, none⟩ = some (.int .i64 p.2.2)) (fun i hi => by
        obtain ⟨cs', h1, f, t, e, h2⟩ := each i hi
        obtain ⟨_, _, hc⟩ := World.cells?_some h1
        rw [add_plain] at hc
        have g : ∀ j, j < 3 → W.cell? ⟨gb, go + i * 3 + j, none⟩ = [Value.int .i64 f, .int .i64 t, .int .i64 e][j]? := fun j hj => by rw [← add_plain, ← h2]; exact hc j hj
        exact ⟨(f, t, e), g 0 (by omega), g 1 (by omega), g 2 (by omega)⟩)
      exact ⟨_, len, cap, gb, go, fun i => (P i).1, fun i => (P i).2.1, fun i => (P i).2.2, hcs, fun _ => rfl, fun _ => World.block_lt_of_cell? _ _ (hP 0 hlp).1, fun i hi => (hP i hi).1, fun i hi => (hP i hi).2.1, fun i hi => (hP i hi).2.2, by omega⟩

theorem open_net {b0 : Nat} {v : Value} {d : DataW H} {p : List MemPlace} (hv : Value.okWide Tryz.prog W .any b0 27 v) (h : DataW.Trod enc Tryz.prog W 0 (fun _ => true) true 27 v d p) :
    ∃ n : NetM, v = n.val ∧ n.In W.heap.size W := by
  obtain ⟨cs, rfl, hsz⟩ := okWide_struct Tryz.underlying27 hv
  obtain ⟨fuel, hf⟩ := h
  obtain ⟨xs, n1, _, _, hlc, hlen, hfs⟩ := DataW.trod_struct Tryz.underlying27 hf
  obtain ⟨c0, c1, c2, c3, c4, rfl⟩ := array5 (hsz.trans Tryz.cells27)
  match xs, hlen with
  | [y0, y1, y2], _ =>
    have k0 := hfs 0 _ rfl
    have k1 := hfs 1 _ rfl
    have k2 := hfs 2 _ rfl
    simp [Value.cells, Tryz.cells3, Tryz.cells24, Tryz.cells25] at k0 k1 k2
    obtain ⟨a, ea, hA⟩ := open_alg_cells k0
    obtain ⟨s, e1, _, _⟩ := DataW.trod_int Tryz.underlying3 k1
    simp at e1 ea
    obtain ⟨rfl, rfl, rfl⟩ := ea
    subst e1
    obtain ⟨la, ln, lc, lb, lo, F, T, E, rfl, q1, q2, q3, q4, q5, q6⟩ := open_links k2
    exact ⟨⟨a, s, la, ln, lc, lb, lo, F, T, E⟩, rfl, hA, q1, q2, q3, q4, q5, q6⟩

end

end Go.Proofs.YtjhkadffaephmabGreat

/-
  A path as it came, out of its reading.
-/
namespace Go.Proofs.YtjhkadffaephmabGreat
set_option maxRecDepth 100000
open Go.RowKit Go.ChangeShapes Go.WideShapes Go.Joins Go.Deep

section
variable {H : Type} {enc : TypeId × Value → H} {W : World}

theorem open_path_cells {n : Nat} {cs : List Value} {y : DataW H × List MemPlace} (h : DataW.trod enc Tryz.prog W 0 (fun _ => true) true n 32 cs = some y) :
    ∃ (a : Option Addr) (l q b o : Nat) (f : Nat → Int), cs = [.slice a l q] ∧ Ints a l b o f W ∧ (0 < l → b < W.heap.size) ∧ l ≤ q ∧ q ≤ maxLen := by
  rcases open_ints Tryz.underlying32 Tryz.underlying3 Tryz.cells3 h with ⟨hcs, _⟩ | ⟨a, len, cap, zs, hcs, _, hl, hm, hz, _, hcell, _⟩
  · exact ⟨none, 0, 0, 0, 0, fun _ => 0, hcs, ⟨fun h => absurd h (Nat.not_lt_zero _), fun _ h => absurd h (Nat.not_lt_zero _), Nat.zero_le _⟩, fun h => absurd h (Nat.not_lt_zero _), Nat.le_refl _, Nat.zero_le _⟩
  · simp only [if_true] at hz
    obtain ⟨gb, go, gs⟩ := a
    rcases Nat.eq_zero_or_pos len with hl0 | hlp
    · subst hl0
      exact ⟨_, 0, cap, 0, 0, fun _ => 0, hcs, ⟨fun h => absurd h (Nat.not_lt_zero _), fun _ h => absurd h (Nat.not_lt_zero _), Nat.zero_le _⟩, fun h => absurd h (Nat.not_lt_zero _), Nat.zero_le _, hm⟩
    · have hgs : gs = none := by simpa [Addr.add] using World.cell?_spot (hcell 0 (by omega))
      subst hgs
      have hc : ∀ i, i < len → W.cell? ⟨gb, go + i, none⟩ = some (.int .i64 (zs.getD i 0)) := fun i hi => by rw [← add_plain]; exact hcell i (by omega)
      exact ⟨_, len, cap, gb, go, fun i => zs.getD i 0, hcs, ⟨fun _ => rfl, hc, by omega⟩, fun _ => World.block_lt_of_cell? _ _ (hc 0 hlp), hl, hm⟩
end

end Go.Proofs.YtjhkadffaephmabGreat

/-
  An engine as it came, out of its reading.
-/
namespace Go.Proofs.YtjhkadffaephmabGreat
set_option maxRecDepth 100000
open Go.RowKit Go.ChangeShapes Go.WideShapes Go.Joins Go.Deep

theorem Tryz.cells31 : Tryz.prog.cellsOf 31 = 2 := by kernel_rfl
theorem Tryz.cells59 : Tryz.prog.cellsOf 59 = 2 := by kernel_rfl
theorem Tryz.cells28 : Tryz.prog.cellsOf 28 = 1 := by kernel_rfl
theorem Tryz.cells69 : Tryz.prog.cellsOf 69 = 3 := by kernel_rfl
theorem Tryz.cells29 : Tryz.prog.cellsOf 29 = 1 := by kernel_rfl
theorem Tryz.cells9 : Tryz.prog.cellsOf 9 = 1 := by kernel_rfl

/-- No router. -/
def noRtr : RtrM := ⟨none, 0, 0, 0, 0, fun _ => 0, ⟨none, 0, 0, 0, fun _ => none, fun _ => 0, fun _ => 0, fun _ => 0, ⟨0, fun _ => 0, fun _ _ => 0⟩⟩⟩

section
variable {H : Type} {enc : TypeId × Value → H} {W : World}

theorem open_mail_cells {n : Nat} {cs : List Value} {y : DataW H × List MemPlace} (h : DataW.trod enc Tryz.prog W 0 (fun _ => true) true n 69 cs = some y) :
    ∃ m : Mail, cs = [.int .i64 m.F, .int .i64 m.T, .string ⟨m.b.toArray⟩] ∧ m.b.length ≤ maxLen := by
  obtain ⟨xs, n1, rfl, rfl, hlc, hlen, hfs⟩ := DataW.trod_struct Tryz.underlying69 h
  rw [Tryz.cells69] at hlc
  match cs, hlc, xs, hlen with
  | [c0, c1, c2], _, [y0, y1, y2], _ =>
    have k0 := hfs 0 _ rfl
    have k1 := hfs 1 _ rfl
    have k2 := hfs 2 _ rfl
    simp [Tryz.cells3, Tryz.cells9] at k0 k1 k2
    obtain ⟨a0, e0, _, _⟩ := DataW.trod_int Tryz.underlying3 k0
    obtain ⟨a1, e1, _, _⟩ := DataW.trod_int Tryz.underlying3 k1
    obtain ⟨s, e2, _, hl⟩ := DataW.trod_string Tryz.underlying9 k2
    simp at e0 e1 e2
    subst e0 e1 e2
    exact ⟨⟨a0, a1, s.data.toList⟩, by simp, by rw [Array.length_toList]; exact hl⟩

theorem open_rtr_cells {n : Nat} {cs : List Value} {y : DataW H × List MemPlace} (h : DataW.trod enc Tryz.prog W 0 (fun _ => true) true n 59 cs = some y) :
    ∃ r : RtrM, cs = [.slice r.ra r.rl r.rc, .slice r.T.ga r.T.t.len r.T.cap] ∧ r.In W.heap.size W := by
  obtain ⟨xs, n1, rfl, rfl, hlc, hlen, hfs⟩ := DataW.trod_struct Tryz.underlying59 h
  rw [Tryz.cells59] at hlc
  match cs, hlc, xs, hlen with
  | [c0, c1], _, [y0, y1], _ =>
    have k0 := hfs 0 _ rfl
    have k1 := hfs 1 _ rfl
    simp [Tryz.cells32, Tryz.cells22] at k0 k1
    obtain ⟨a, l, q, b, o, f, e0, hi, hlt, _, _⟩ := open_path_cells k0
    simp at e0
    subst e0
    obtain ⟨T, rfl, hT⟩ := open_mat k1
    exact ⟨⟨a, l, q, b, o, f, T⟩, rfl, hi, hlt, hT⟩

theorem open_bag {n : Nat} {v : Value} {y : DataW H × List MemPlace} (h : DataW.trod enc Tryz.prog W 0 (fun _ => true) true n 29 [v] = some y) :
    ∃ x : BagM, v = .slice x.ba x.bn x.bc ∧ x.In W.heap.size W ∧ x.bn ≤ x.bc := by
  rcases DataW.trod_slice Tryz.underlying29 h with ⟨hcs, _⟩ | ⟨a, len, cap, elems, rest, n2, hn, hcs, hy, _, hl, hm, hel, hat, hsp, _⟩
  · simp at hcs
    exact ⟨⟨none, 0, 0, 0, 0, fun _ => noMail⟩, hcs, ⟨fun h => absurd h (Nat.not_lt_zero _), fun h => absurd h (Nat.not_lt_zero _), fun _ h => absurd h (Nat.not_lt_zero _), fun _ h => absurd h (Nat.not_lt_zero _), fun _ h => absurd h (Nat.not_lt_zero _), Nat.zero_le _, fun _ h => absurd h (Nat.not_lt_zero _)⟩, Nat.zero_le _⟩
  · simp at hcs
    obtain ⟨gb, go, gs⟩ := a
    rcases Nat.eq_zero_or_pos len with hl0 | hlp
    · subst hl0
      exact ⟨⟨_, 0, cap, 0, 0, fun _ => noMail⟩, hcs, ⟨fun h => absurd h (Nat.not_lt_zero _), fun h => absurd h (Nat.not_lt_zero _), fun _ h => absurd h (Nat.not_lt_zero _), fun _ h => absurd h (Nat.not_lt_zero _), fun _ h => absurd h (Nat.not_lt_zero _), Nat.zero_le _, fun _ h => absurd h (Nat.not_lt_zero _)⟩, Nat.zero_le _⟩
    · have each : ∀ i, i < len → ∃ cs', W.cells? 0 ((⟨gb, go, gs⟩ : Addr).add (i * 3)) 3 = some cs' ∧ ∃ t : Mail, cs' = [.int .i64 t.F, .int .i64 t.T, .string ⟨t.b.toArray⟩] ∧ t.b.length ≤ maxLen := fun i hi => by
        have := hat i hi
        rw [Tryz.cells69, List.getElem?_eq_getElem (by omega)] at this
        obtain ⟨cs', h1, h2⟩ := Option.bind_eq_some_iff.1 this
        exact ⟨cs', h1, open_mail_cells h2⟩
      have hgs : gs = none := by
        obtain ⟨cs', h1, t, h2, _⟩ := each 0 hlp
        have := (World.cells?_some h1).2.2 0 (by omega)
        rw [h2] at this
        simpa [Addr.add] using World.cell?_spot this
      subst hgs
      haveI : Inhabited Mail := ⟨noMail⟩
      obtain ⟨P, hP⟩ := choose_lt (α := Mail) (n := len) (p := fun i p => W.cell? ⟨gb, go + i * 3, none⟩ = some (.int .i64 p.F) ∧ W.cell? ⟨gb, go + i * 3 + 1, none⟩ = some (.int .i64 p.T) ∧ W.cell? ⟨gb, go + i * 3 + 2, none⟩ = some (.string ⟨p.b.toArray⟩) ∧ p.b.length ≤ maxLen) (fun i hi => by
        obtain ⟨cs', h1, t, h2, h3⟩ := each i hi
        obtain ⟨_, _, hc⟩ := World.cells?_some h1
        rw [add_plain] at hc
        have g : ∀ j, j < 3 → W.cell? ⟨gb, go + i * 3 + j, none⟩ = [Value.int .i64 t.F, .int .i64 t.T, .string ⟨t.b.toArray⟩][j]? := fun j hj => by rw [← add_plain, ← h2]; exact hc j hj
        exact ⟨t, g 0 (by omega), g 1 (by omega), g 2 (by omega), h3⟩)
      exact ⟨⟨_, len, cap, gb, go, P⟩, hcs, ⟨fun _ => rfl, fun _ => World.block_lt_of_cell? _ _ (hP 0 hlp).1, fun i hi => (hP i hi).1, fun i hi => (hP i hi).2.1, fun i hi => (hP i hi).2.2.1, by show len ≤ _; omega, fun i hi => (hP i hi).2.2.2⟩, hl⟩

theorem open_rtrs {n : Nat} {v : Value} {y : DataW H × List MemPlace} (h : DataW.trod enc Tryz.prog W 0 (fun _ => true) true n 28 [v] = some y) :
    ∃ x : RtrsM, v = .slice x.ga x.gn x.gc ∧ x.In W.heap.size W ∧ x.gn ≤ x.gc := by
  rcases DataW.trod_slice Tryz.underlying28 h with ⟨hcs, _⟩ | ⟨a, len, cap, elems, rest, n2, hn, hcs, hy, _, hl, hm, hel, hat, hsp, _⟩
  · simp at hcs
    exact ⟨⟨none, 0, 0, 0, 0, fun _ => noRtr⟩, hcs, ⟨fun h => absurd h (Nat.not_lt_zero _), fun h => absurd h (Nat.not_lt_zero _), fun _ h => absurd h (Nat.not_lt_zero _), fun _ h => absurd h (Nat.not_lt_zero _), fun _ h => absurd h (Nat.not_lt_zero _), Nat.zero_le _⟩, Nat.zero_le _⟩
  · simp at hcs
    obtain ⟨gb, go, gs⟩ := a
    rcases Nat.eq_zero_or_pos len with hl0 | hlp
    · subst hl0
      exact ⟨⟨_, 0, cap, 0, 0, fun _ => noRtr⟩, hcs, ⟨fun h => absurd h (Nat.not_lt_zero _), fun h => absurd h (Nat.not_lt_zero _), fun _ h => absurd h (Nat.not_lt_zero _), fun _ h => absurd h (Nat.not_lt_zero _), fun _ h => absurd h (Nat.not_lt_zero _), Nat.zero_le _⟩, Nat.zero_le _⟩
    · have each : ∀ i, i < len → ∃ cs', W.cells? 0 ((⟨gb, go, gs⟩ : Addr).add (i * 2)) 2 = some cs' ∧ ∃ t : RtrM, cs' = [.slice t.ra t.rl t.rc, .slice t.T.ga t.T.t.len t.T.cap] ∧ t.In W.heap.size W := fun i hi => by
        have := hat i hi
        rw [Tryz.cells59, List.getElem?_eq_getElem (by omega)] at this
        obtain ⟨cs', h1, h2⟩ := Option.bind_eq_some_iff.1 this
        exact ⟨cs', h1, open_rtr_cells h2⟩
      have hgs : gs = none := by
        obtain ⟨cs', h1, t, h2, _⟩ := each 0 hlp
        have := (World.cells?_some h1).2.2 0 (by omega)
        rw [h2] at this
        simpa [Addr.add] using World.cell?_spot this
      subst hgs
      haveI : Inhabited RtrM := ⟨noRtr⟩
      obtain ⟨P, hP⟩ := choose_lt (α := RtrM) (n := len) (p := fun i p => W.cell? ⟨gb, go + i * 2, none⟩ = some (.slice p.ra p.rl p.rc) ∧ W.cell? ⟨gb, go + i * 2 + 1, none⟩ = some (.slice p.T.ga p.T.t.len p.T.cap) ∧ p.In W.heap.size W) (fun i hi => by
        obtain ⟨cs', h1, t, h2, h3⟩ := each i hi
        obtain ⟨_, _, hc⟩ := World.cells?_some h1
        rw [add_plain] at hc
        have g : ∀ j, j < 2 → W.cell? ⟨gb, go + i * 2 + j, none⟩ = [Value.slice t.ra t.rl t.rc, .slice t.T.ga t.T.t.len t.T.cap][j]? := fun j hj => by rw [← add_plain, ← h2]; exact hc j hj
        exact ⟨t, g 0 (by omega), g 1 (by omega), h3⟩)
      exact ⟨⟨_, len, cap, gb, go, P⟩, hcs, ⟨fun _ => rfl, fun _ => World.block_lt_of_cell? _ _ (hP 0 hlp).1, fun i hi => (hP i hi).1, fun i hi => (hP i hi).2.1, fun i hi => (hP i hi).2.2, by show len ≤ _; omega⟩, hl⟩

theorem open_engine {b0 : Nat} {v : Value} {d : DataW H} {p : List MemPlace} (hv : Value.okWide Tryz.prog W .any b0 31 v) (h : DataW.Trod enc Tryz.prog W 0 (fun _ => true) true 31 v d p) :
    ∃ x : EngM, v = x.val ∧ x.In W.heap.size W ∧ x.bag.bn ≤ x.bag.bc := by
  obtain ⟨cs, rfl, hsz⟩ := okWide_struct Tryz.underlying31 hv
  obtain ⟨fuel, hf⟩ := h
  obtain ⟨xs, n1, _, _, hlc, hlen, hfs⟩ := DataW.trod_struct Tryz.underlying31 hf
  have hcl : cs.toList.length = 2 := by rw [Tryz.cells31] at hlc; simpa [Value.cells] using hlc
  obtain ⟨l⟩ := cs
  match l, hcl, xs, hlen with
  | [c0, c1], _, [y0, y1], _ =>
    have k0 := hfs 0 _ rfl
    have k1 := hfs 1 _ rfl
    simp [Value.cells, Tryz.cells28, Tryz.cells29] at k0 k1
    obtain ⟨rs, rfl, hr, _⟩ := open_rtrs k0
    obtain ⟨bag, rfl, hb, hc⟩ := open_bag k1
    exact ⟨⟨rs, bag⟩, rfl, ⟨hr, hb⟩, hc⟩
end

end Go.Proofs.YtjhkadffaephmabGreat

/-
  Events as they came, out of their readings.
-/
namespace Go.Proofs.YtjhkadffaephmabGreat
set_option maxRecDepth 100000
open Go.RowKit Go.ChangeShapes Go.WideShapes Go.Joins Go.Deep

theorem Tryz.cells34 : Tryz.prog.cellsOf 34 = 5 := by kernel_rfl

section
variable {H : Type} {enc : TypeId × Value → H} {W : World}

theorem open_ev_cells {n : Nat} {cs : List Value} {y : DataW H × List MemPlace} (h : DataW.trod enc Tryz.prog W 0 (fun _ => true) true n 34 cs = some y) :
    ∃ v : EvM, cs = [.int .i64 v.kind, .int .i64 v.loc, .int .i64 v.b, .int .i64 v.c, .slice v.ra v.rl v.rc] ∧ v.In W.heap.size W := by
  obtain ⟨xs, n1, rfl, rfl, hlc, hlen, hfs⟩ := DataW.trod_struct Tryz.underlying34 h
  rw [Tryz.cells34] at hlc
  match cs, hlc, xs, hlen with
  | [c0, c1, c2, c3, c4], _, [y0, y1, y2, y3, y4], _ =>
    have k0 := hfs 0 _ rfl
    have k1 := hfs 1 _ rfl
    have k2 := hfs 2 _ rfl
    have k3 := hfs 3 _ rfl
    have k4 := hfs 4 _ rfl
    simp [Tryz.cells3, Tryz.cells32] at k0 k1 k2 k3 k4
    obtain ⟨a0, e0, _, _⟩ := DataW.trod_int Tryz.underlying3 k0
    obtain ⟨a1, e1, _, _⟩ := DataW.trod_int Tryz.underlying3 k1
    obtain ⟨a2, e2, _, _⟩ := DataW.trod_int Tryz.underlying3 k2
    obtain ⟨a3, e3, _, _⟩ := DataW.trod_int Tryz.underlying3 k3
    obtain ⟨a, l, q, b, o, f, e4, hi, hlt, _, _⟩ := open_path_cells k4
    simp at e0 e1 e2 e3 e4
    subst e0 e1 e2 e3 e4
    exact ⟨⟨a0, a1, a2, a3, a, l, q, b, o, f⟩, rfl, hi, hlt, hi.len⟩

theorem open_event {b0 : Nat} {v : Value} {d : DataW H} {p : List MemPlace} (hv : Value.okWide Tryz.prog W .any b0 34 v) (h : DataW.Trod enc Tryz.prog W 0 (fun _ => true) true 34 v d p) :
    ∃ x : EvM, v = x.val ∧ x.In W.heap.size W := by
  obtain ⟨cs, rfl, hsz⟩ := okWide_struct Tryz.underlying34 hv
  obtain ⟨fuel, hf⟩ := h
  obtain ⟨x, e, hx⟩ := open_ev_cells hf
  refine ⟨x, ?_, hx⟩
  obtain ⟨l⟩ := cs
  simp [Value.cells] at e
  subst e
  rfl

end

end Go.Proofs.YtjhkadffaephmabGreat
