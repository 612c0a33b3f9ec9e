/-
  net.Settle.
-/
import Derived.Test.YtgjkdpgcogekmaaBeginN
import Derived.Test.YtgjkdpgcogekmaaCopyN
namespace Go.Proofs.Ytgjkdpgcogekmaa
set_option maxRecDepth 100000
open Go.RowKit

theorem Net.same_tab {n : Net} {x y : Nat → Nat → Int} : Tab.same ⟨n.N, fun _ => n.N, x⟩ ⟨n.N, fun _ => n.N, y⟩ = n.same x y := by
  rw [Bool.eq_iff_iff, Tab.same_iff, Net.same_iff]
  exact ⟨fun h i j hi hj => (h.2 i hi).2 j hj, fun h => ⟨rfl, fun i hi => ⟨rfl, fun j hj => h i j hi hj⟩⟩⟩

theorem Fresh.is {n : Net} {lo : Nat} {Z : Nat → Nat → Int} {m : Mat} {W : World} (h : Fresh n.N lo Z m W) (hs : n.State Z) : n.Is m.t := by
  rw [h.1]
  exact Net.Is.mk' hs
theorem Fresh.grown {N lo : Nat} {Z : Nat → Nat → Int} {m : Mat} {W W' : World} (h : Fresh N lo Z m W) (hb : Below W.heap.size W W') : Fresh N lo Z m W' := ⟨h.1, h.2.1.grown hb, h.2.2⟩
theorem Fresh.mono {N lo lo' : Nat} {Z : Nat → Nat → Int} {m : Mat} {W : World} (h : Fresh N lo Z m W) (hl : lo' ≤ lo) : Fresh N lo' Z m W := ⟨h.1, h.2.1, h.2.2.mono hl⟩

/-- So many rounds were made: what is left to do comes to the same. -/
def Net.Left (n : Net) (M : Nat) (X : Nat → Nat → Int) (k : Nat) (Y : Nat → Nat → Int) : Prop := n.settle M X = ((n.settle (M - k) Y).1, (n.settle (M - k) Y).2 + k)
theorem Net.Left.next {n : Net} {M k : Nat} {X Y : Nat → Nat → Int} (h : n.Left M X k Y) (hk : k < M) (hs : n.same Y (n.round Y) = false) : n.Left M X (k + 1) (n.round Y) := by
  unfold Net.Left at *
  rw [show M - k = (M - (k + 1)) + 1 by omega, Net.settle, if_neg (by simp [hs])] at h
  rw [h]
  simp only [Prod.mk.injEq, true_and]
  omega
theorem Net.Left.stop {n : Net} {M k : Nat} {X Y : Nat → Nat → Int} (h : n.Left M X k Y) (hs : k = M ∨ n.same Y (n.round Y) = true) : n.settle M X = (Y, k) := by
  unfold Net.Left at h
  rw [h]
  rcases hs with e | e
  · rw [show M - k = 0 by omega, Net.settle]
    simp
  · cases M - k with
    | zero => rw [Net.settle]; simp
    | succ q => rw [Net.settle, if_pos e]; simp

set_option maxHeartbeats 4000000 in
theorem netSettle_ok (n : NetM) (x : Mat) (M : Nat) (w : World) (h : n.In w.heap.size w) (hx : x.In w.heap.size w) (hf : n.net.fit x.t = 0) (hM : M ≤ 1000) :
    Calls Try.prog 40 #[n.val, x.val, .int .i64 M] w fun e w' => (∃ m : Mat, e = .returned (.tuple #[m.val, .int .i64 ((n.net.settle M x.t.Z).2 : Nat), .int .i64 0]) ∧ Fresh n.net.N w.heap.size (n.net.settle M x.t.Z).1 m w') ∧ Below w.heap.size w w' := by
  have hB0 : Below w.heap.size w (w.alloc (.cells n.cells 50)) := (Below.refl _ w).alloc (Nat.le_refl _) _
  have b0 := Blk.new w n.cells 50
  have HF := hide (netFit_any n x _ (h.grown hB0) (hx.grown hB0))
  rw [hf] at HF
  obtain ⟨hc, hi⟩ := Net.is_of_fit hf
  have g := Net.good_of_check hc
  have hN6 : n.net.N ≤ 6 := by have := g.hi; unfold Net.N; omega
  have HCp := hide (fun W (hb : Below w.heap.size w W) => copy_any x n.net.N W (hx.grown hb) hi.len hi.wide (by omega))
  have HRd := hide (fun (m : Mat) (Y : Nat → Nat → Int) W (hb : Below w.heap.size w W) (hm : Fresh n.net.N w.heap.size Y m W) (hs : n.net.State Y) => round_any n m W (h.grown hb) hm.2.1 hc (hm.is hs))
  have HSt := hide (fun (Y : Nat → Nat → Int) (hs : n.net.State Y) => hs.round g)
  have HX := hide hi.state
  clear hf hc hi h hx g
  simp only [NetM.val, NetM.cells, Mat.val] at HF HCp HRd ⊢
  simp only [NetM.cells, Mat.val] at b0 hB0
  go_enter Try.func40, Try.ntmps40
  go_wp2_with fail
  go_at_call 38
  refine HF.out.mono ?_
  rintro e w1 ⟨rfl, hb1⟩
  have hB1 := hB0.trans (hb1.mono hB0.size)
  have b1 := b0.below hb1 b0.lt
  have HC1 := hide (HCp.out w1 hB1)
  have hMi : (M : Int) ≤ 1000 := by omega
  clear HF HCp b0 hb1 hB0
  go_wp2_with fail
  go_at_call 77
  refine HC1.out.mono ?_
  rintro e w2 ⟨⟨m0, rfl, hm0⟩, hb2⟩
  have hB2 := hB1.trans (hb2.mono hB1.size)
  have b2 := b1.below hb2 b1.lt
  have HM0 := hide (hm0.mono hB1.size)
  have HB2 := hide hB2
  have hs2 : w.heap.size < w2.heap.size := b2.lt
  clear hm0 hb2 HC1 hB2 hB1 b1
  go_wp2_with fail
  go_loopw [10, 11, 12, 28] (fun s c _ q wr => ∃ (k : Nat) (m : Mat) (Y : Nat → Nat → Int), k ≤ M ∧ q = .int .i64 k ∧ c = .int .i64 k ∧ s = .slice m.ga m.t.len m.cap ∧ Hid (Fresh n.net.N w.heap.size Y m wr) ∧ Hid (n.net.State Y) ∧ Hid (n.net.Left M x.t.Z k Y) ∧ Hid (Below w2.heap.size w2 wr)) (fun _ _ _ q _ => M - (intOf q).toNat)
  case atStart => exact ⟨0, m0, x.t.Z, Nat.zero_le _, rfl, rfl, rfl, HM0, HX, hide rfl, hide (Below.refl _ _)⟩
  case round =>
    obtain ⟨k, m, Y, hk, rfl, rfl, rfl, HM, HY, HL, HB⟩ := hrel
    have hBw := HB2.out.trans (HB.out.mono HB2.out.size)
    by_cases hlt : k < M
    · have bN := b2.below HB.out b2.lt
      have x0 := bN.cell 0
      have x1 := bN.cell 1
      have x2 := bN.cell 2
      have x3 := bN.cell 3
      have x4 := bN.cell 4
      simp at x0 x1 x2 x3 x4
      have hki : (k : Int) < (M : Int) := by omega
      have HR1 := hide (HRd.out m Y wr hBw HM.out HY.out)
      have HBw := hide hBw
      clear hBw
      go_wp2_with fail
      go_at_call 67
      refine HR1.out.mono ?_
      rintro e w3 ⟨⟨m2, rfl, hm2⟩, hb3⟩
      have HM2 := hide (hm2.mono HBw.out.size)
      have HM1 := hide (HM.out.grown hb3)
      have e1 : m.t.Z = Y := by rw [HM.out.1]
      rw [e1] at HM2
      have Hsm : Hid (m.t.same m2.t = n.net.same Y (n.net.round Y)) := hide (by rw [HM.out.1, HM2.out.1]; exact Net.same_tab)
      have hB3 := HBw.out.trans (hb3.mono HBw.out.size)
      have HB3 := hide (HB.out.trans (hb3.mono HB.out.size))
      have HSm := hide (same_any m m2 w3.heap.size w3 HM1.out.2.1 HM2.out.2.1)
      simp only [Mat.val] at HSm
      have HBr := hide hB3
      clear hm2 hb3 e1 hB3 HR1 HBw x0 x1 x2 x3 x4 bN HB
      go_wp2_with fail
      go_at_call 78
      refine HSm.out.mono ?_
      rintro e w4 ⟨rfl, q, rfl⟩
      cases hs : n.net.same Y (n.net.round Y) with
      | true =>
        have hs2 : m.t.same m2.t = true := Hsm.out.trans hs
        have Hst := hide (HL.out.stop (Or.inr hs))
        rw [hs2]
        clear hs hs2 Hsm HL HSm
        go_wp2
        have e2 : (n.net.settle M x.t.Z).2 = k := by rw [Hst.out]
        have e3 : (n.net.settle M x.t.Z).1 = Y := by rw [Hst.out]
        refine bodyPost_ret (v := .tuple #[.slice m.ga m.t.len m.cap, .int .i64 k, .int .i64 0]) (by simp [results, Try.results40, go_sem]) rfl ⟨⟨m, by rw [e2], ?_⟩, below_drewN HBr.out _⟩
        rw [e3]
        exact HM1.out.grown (below_drewN (Below.refl _ _) _)
      | false =>
        have hs2 : m.t.same m2.t = false := Hsm.out.trans hs
        have HLn := hide (HL.out.next hlt hs)
        have HYn := hide (HSt.out Y HY.out)
        have HM3 : Hid (Fresh n.net.N w.heap.size (n.net.round Y) m2 (w3.drewN q)) := hide (HM2.out.grown (below_drewN (Below.refl _ _) _))
        have HB4 := hide (below_drewN HB3.out q)
        rw [hs2]
        clear hs hs2 Hsm HL HSm HM HM1 HM2 HB3 HBr
        go_wp2
        go_roundw
        case rel =>
          first
          | exact ⟨k + 1, m2, _, by omega, by go_num, by go_num, rfl, HM3, HYn, HLn, HB4⟩
          | ((repeat apply Exists.intro); refine ⟨?_, rfl⟩; exact ⟨k + 1, m2, _, by omega, by go_num, by go_num, rfl, HM3, HYn, HLn, HB4⟩)
        case measure => simp [intOf]; omega
    · have hkM : k = M := by omega
      have Hst := hide (HL.out.stop (Or.inl hkM))
      have hki : (M : Int) ≤ (k : Int) := by omega
      have HBw := hide hBw
      clear hBw HL
      go_wp2
      have e2 : (n.net.settle M x.t.Z).2 = k := by rw [Hst.out]
      have e3 : (n.net.settle M x.t.Z).1 = Y := by rw [Hst.out]
      refine bodyPost_ret (v := .tuple #[.slice m.ga m.t.len m.cap, .int .i64 k, .int .i64 0]) (by simp [results, Try.results40, go_sem]) rfl ⟨⟨m, by rw [e2], ?_⟩, HBw.out⟩
      rw [e3]
      exact HM.out

/-- What Settle answers besides: an error. -/
def Net.settleE (n : Net) (t : Tab) (most : Int) : Int := if n.fit t ≠ 0 then n.fit t else if most < 0 ∨ 1000 < most then 3 else 0

set_option maxHeartbeats 1000000 in
theorem netSettle_bad (n : NetM) (x : Mat) (most : Int) (w : World) (h : n.In w.heap.size w) (hx : x.In w.heap.size w) (hf : n.net.settleE x.t most ≠ 0) :
    Calls Try.prog 40 #[n.val, x.val, .int .i64 most] w fun e w' => e = .returned (.tuple #[.slice none 0 0, .int .i64 0, .int .i64 (n.net.settleE x.t most)]) ∧ Below w.heap.size w w' := by
  have hB0 : Below w.heap.size w (w.alloc (.cells n.cells 50)) := (Below.refl _ w).alloc (Nat.le_refl _) _
  have HF := hide (netFit_any n x _ (h.grown hB0) (hx.grown hB0))
  have Hd : Hid (n.net.settleE x.t most = if n.net.fit x.t ≠ 0 then n.net.fit x.t else if most < 0 ∨ 1000 < most then 3 else 0) := hide rfl
  generalize n.net.fit x.t = ft at *
  simp only [NetM.val, NetM.cells, Mat.val] at *
  by_cases hft : ft = 0
  · subst hft
    have hmo : most < 0 ∨ 1000 < most := by
      apply Classical.byContradiction
      intro hn
      rw [Hd.out] at hf
      simp [hn] at hf
    have He : Hid (n.net.settleE x.t most = 3) := hide (by rw [Hd.out]; simp [hmo])
    clear Hd hf h hx
    by_cases h0 : most < 0
    · clear hmo
      go_enter Try.func40, Try.ntmps40
      go_wp2_with fail
      go_at_call 38
      refine HF.out.mono ?_
      rintro e w1 ⟨rfl, hb1⟩
      have HB := hide (hB0.trans (hb1.mono hB0.size))
      clear HF hb1 hB0
      go_wp2
      exact bodyPost_ret (v := .tuple #[.slice none 0 0, .int .i64 0, .int .i64 3]) (by simp [results, Try.results40, go_sem]) rfl ⟨by rw [He.out], HB.out⟩
    · have h1 : 1000 < most := by omega
      clear hmo
      go_enter Try.func40, Try.ntmps40
      go_wp2_with fail
      go_at_call 38
      refine HF.out.mono ?_
      rintro e w1 ⟨rfl, hb1⟩
      have HB := hide (hB0.trans (hb1.mono hB0.size))
      clear HF hb1 hB0
      go_wp2
      exact bodyPost_ret (v := .tuple #[.slice none 0 0, .int .i64 0, .int .i64 3]) (by simp [results, Try.results40, go_sem]) rfl ⟨by rw [He.out], HB.out⟩
  · have He : Hid (n.net.settleE x.t most = ft) := hide (by rw [Hd.out]; simp [hft])
    have hf' : (ft != 0) = true := by simp [hft]
    clear Hd hf h hx hft
    go_enter Try.func40, Try.ntmps40
    go_wp2_with fail
    go_at_call 38
    refine HF.out.mono ?_
    rintro e w1 ⟨rfl, hb1⟩
    have HB := hide (hB0.trans (hb1.mono hB0.size))
    clear HF hb1 hB0
    go_wp2
    exact bodyPost_ret (v := .tuple #[.slice none 0 0, .int .i64 0, .int .i64 ft]) (by simp [results, Try.results40, go_sem]) rfl ⟨by rw [He.out], HB.out⟩

end Go.Proofs.Ytgjkdpgcogekmaa
