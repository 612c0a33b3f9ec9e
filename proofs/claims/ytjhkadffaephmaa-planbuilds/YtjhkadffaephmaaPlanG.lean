/-
  plan.Check, plan.Build.
-/
import Derived.Test.YtjhkadffaephmaaBuildE
namespace Go.Proofs.Ytjhkadffaephmaa
set_option maxRecDepth 100000
open Go.RowKit

/-- What is wrong with a plan. -/
def PlanM.chk (p : PlanM) : Int := if p.many 4 = true then 2 else p.err

theorem wide_of_many {p : PlanM} {d : Nat} (h : p.many d = false) : p.wide = false := by
  rw [many_eq] at h
  simp at h
  exact h.2

def nilMat : Mat := ⟨none, 0, 0, 0, fun _ => none, fun _ => 0, fun _ => 0, fun _ => 0, ⟨0, fun _ => 0, fun _ _ => 0⟩⟩
def nilAlg : AlgM := ⟨0, nilMat, nilMat⟩
theorem nilMat_in (n : Nat) (w : World) : nilMat.In n w where
  ga := fun h => absurd h (Nat.not_lt_zero _)
  gb := fun h => absurd h (Nat.not_lt_zero _)
  row := fun _ h => absurd h (Nat.not_lt_zero _)
  addr := fun _ h => absurd h (Nat.not_lt_zero _)
  cell := fun _ h => absurd h (Nat.not_lt_zero _)
  len := Nat.zero_le _
  lens := fun _ h => absurd h (Nat.not_lt_zero _)
theorem nilAlg_in (n : Nat) (w : World) : nilAlg.In n w := ⟨nilMat_in n w, nilMat_in n w⟩

/-- What is built of a plan: nothing, if it is wrong. -/
def PlanM.res (p : PlanM) : Alg := if p.chk = 0 then p.built.alg else nilAlg.alg

set_option maxHeartbeats 1000000 in
theorem planCheck_any (p : PlanM) (w : World) (hin : p.In w.heap.size w) :
    Calls Try.prog 29 #[p.head.val] w fun e w' => e = .returned (.int .i64 p.chk) ∧ Below w.heap.size w w' := by
  have hb0 : Below w.heap.size w (w.alloc (.cells p.head.cells 42)) := (Below.refl _ w).alloc (Nat.le_refl _) _
  have b0 := Blk.new w p.head.cells 42
  have HT := hide (tooMany_any p 4 (w.alloc (.cells p.head.cells 42)) (by omega) (hin.grown hb0))
  simp only [PHead.val, PHead.cells] at *
  cases hm : p.many 4 with
  | true =>
    have e : Hid (p.chk = 2) := hide (by unfold PlanM.chk; rw [if_pos hm])
    rw [hm] at HT
    clear hm
    go_enter Try.func29, Try.ntmps29
    go_wp2_with fail
    go_at_call 69
    refine HT.out.mono ?_
    rintro r w1 ⟨rfl, hb1⟩
    have hB := hide (hb0.trans (hb1.mono hb0.size))
    go_wp2
    go_ret
    exact ⟨by rw [e.out]; rfl, hB.out⟩
  | false =>
    have e : Hid (p.chk = p.err) := hide (by unfold PlanM.chk; rw [if_neg (by rw [hm]; simp)])
    rw [hm] at HT
    clear hm
    go_enter Try.func29, Try.ntmps29
    go_wp2_with fail
    go_at_call 69
    refine HT.out.mono ?_
    rintro r w1 ⟨rfl, hb1⟩
    have hB := hb0.trans (hb1.mono hb0.size)
    have HM := hide (measure_any p w1 (hin.grown hB))
    simp only [PHead.val, PHead.cells] at HM
    have b1 := b0.below hb1 b0.lt
    have c0 := b1.cell 0
    have c1 := b1.cell 1
    have c2 := b1.cell 2
    have c3 := b1.cell 3
    simp at c0 c1 c2 c3
    go_wp2_with fail
    go_at_call 70
    refine HM.out.mono ?_
    rintro r w2 ⟨⟨s, g, rfl, _⟩, hb2⟩
    have hB2 := hide (hB.trans (hb2.mono hB.size))
    go_wp2
    go_ret
    exact ⟨by rw [e.out]; rfl, hB2.out.alloc hB2.out.size _⟩

/-- What a call that builds or refuses returns. -/
def Answer (x : Alg) (c : Int) (e : Ending) (w' : World) : Prop := ∃ m : AlgM, e = .returned (.tuple #[m.val, .int .i64 c]) ∧ m.alg = x ∧ m.In w'.heap.size w'

/-- The same, and all of it its own. -/
def AnswerS (x : Alg) (c : Int) (lo : Nat) (e : Ending) (w' : World) : Prop := ∃ m : AlgM, e = .returned (.tuple #[m.val, .int .i64 c]) ∧ m.alg = x ∧ m.In w'.heap.size w' ∧ m.FromS lo w'
theorem nilAlg_from (b : Nat) (W : World) : nilAlg.FromS b W := ⟨⟨fun h => absurd h (Nat.not_lt_zero _), fun _ h => absurd h (Nat.not_lt_zero _)⟩, ⟨fun h => absurd h (Nat.not_lt_zero _), fun _ h => absurd h (Nat.not_lt_zero _)⟩, fun _ h => absurd h (Nat.not_lt_zero _), fun _ h => absurd h (Nat.not_lt_zero _)⟩

set_option maxHeartbeats 2000000 in
theorem planBuild_own (p : PlanM) (w : World) (hin : p.In w.heap.size w) :
    Calls Try.prog 26 #[p.head.val] w fun e w' => AnswerS p.res p.chk w.heap.size e w' ∧ Below w.heap.size w w' := by
  have hb0 : Below w.heap.size w ((w.alloc (.cells p.head.cells 42)).alloc (.cells #[.int .i64 0, .slice none 0 0, .slice none 0 0] 24)) := ((Below.refl _ w).alloc (Nat.le_refl _) _).alloc (by simp) _
  have b0 := (Blk.new w p.head.cells 42).alloc (.cells #[.int .i64 0, .slice none 0 0, .slice none 0 0] 24)
  have bR : Blk ((w.alloc (.cells p.head.cells 42)).alloc (.cells #[.int .i64 0, .slice none 0 0, .slice none 0 0] 24)) (w.heap.size + 1) #[.int .i64 0, .slice none 0 0, .slice none 0 0] 24 := Blk.new' (by simp)
  have HC := hide (planCheck_any p _ (hin.grown hb0))
  have hsz : ((w.alloc (.cells p.head.cells 42)).alloc (.cells #[.int .i64 0, .slice none 0 0, .slice none 0 0] 24)).heap.size = w.heap.size + 2 := by simp
  have Hz := hide (show p.chk ≠ 0 → p.res = nilAlg.alg from fun h => by unfold PlanM.res; rw [if_neg h])
  have Hy := hide (show p.chk = 0 → p.res = p.built.alg ∧ p.err = 0 ∧ p.wide = false from fun h => by
    refine ⟨by unfold PlanM.res; rw [if_pos h], ?_, ?_⟩
    · unfold PlanM.chk at h
      split at h
      · cases h
      · exact h
    · unfold PlanM.chk at h
      split at h
      · cases h
      · rename_i hm
        exact wide_of_many (d := 4) (by simpa using hm))
  simp only [PHead.val, PHead.cells] at *
  generalize p.chk = ck at *
  go_enter Try.func26, Try.ntmps26
  go_wp2_with fail
  go_at_call 29
  refine HC.out.mono ?_
  rintro r w1 ⟨rfl, hb1⟩
  rw [hsz] at hb1
  have hB := hb0.trans (hb1.mono (by omega))
  have bR1 := bR.below hb1 (by omega)
  have b1 := b0.below hb1 (by omega)
  clear HC hb0
  by_cases hc : ck = 0
  · obtain ⟨e1, e2, e3⟩ := Hy.out hc
    subst hc
    have HBu := hide (build_any p w1 (hin.grown hB) e2 e3)
    simp only [PHead.val, PHead.cells] at HBu
    have c0 := b1.cell 0
    have c1 := b1.cell 1
    have c2 := b1.cell 2
    have c3 := b1.cell 3
    simp at c0 c1 c2 c3
    have HR := hide e1
    clear e1 e2 e3 Hz Hy
    go_wp2_with fail
    go_at_call 65
    refine HBu.out.mono ?_
    rintro e w2 ⟨⟨m, rfl, hal, hmi, hfr⟩, hb2⟩
    have hs1 : w.heap.size + 2 ≤ w1.heap.size := by have := hb1.size; omega
    have bR2 := bR1.below hb2 bR1.lt
    have hB2 := hB.trans (hb2.mono hB.size)
    have d0 := bR2.cell 0
    have d1 := bR2.cell 1
    have d2 := bR2.cell 2
    have df := bR2.frozen
    have bR3 := bR2.set3 (.int .i64 m.size) m.B.val m.E.val
    have e0 := bR3.cell 0
    have e1 := bR3.cell 1
    have e2 := bR3.cell 2
    unfold Ytjhkadffaephmaa.set3 at e0 e1 e2
    simp [Mat.val] at d0 d1 d2 e0 e1 e2
    have HBe := hide (below3 hB2 (show w.heap.size ≤ w.heap.size + 1 by omega) (.int .i64 m.size) m.B.val m.E.val)
    have HA : Hid (AnswerS p.res 0 w.heap.size (.returned (.tuple #[.agg #[.int .i64 m.size, m.B.val, m.E.val], .int .i64 0])) (set3 w2 (w.heap.size + 1) (.int .i64 m.size) m.B.val m.E.val)) := hide (by
      refine ⟨m, rfl, hal.trans HR.out.symm, ⟨?_, ?_⟩, ⟨hfr.B.mono (by omega), hfr.E.mono (by omega), fun r hr h0 => (by unfold Ytjhkadffaephmaa.set3; exact (((hfr.sB r hr h0).set _ _).set _ _).set _ _), fun r hr h0 => (by unfold Ytjhkadffaephmaa.set3; exact (((hfr.sE r hr h0).set _ _).set _ _).set _ _)⟩⟩
      · have hs3 : (set3 w2 (w.heap.size + 1) (.int .i64 m.size) m.B.val m.E.val).heap.size = w2.heap.size := by unfold Ytjhkadffaephmaa.set3; simp
        rw [hs3]
        exact ((hmi.B.other hfr.B (by omega) _).other hfr.B (by omega) _).other hfr.B (by omega) _
      · have hs3 : (set3 w2 (w.heap.size + 1) (.int .i64 m.size) m.B.val m.E.val).heap.size = w2.heap.size := by unfold Ytjhkadffaephmaa.set3; simp
        rw [hs3]
        exact ((hmi.E.other hfr.E (by omega) _).other hfr.E (by omega) _).other hfr.E (by omega) _)
    simp only [Mat.val] at HA HBe
    clear hal hmi hfr hb2 bR2 bR3
    simp only [AlgM.val, Mat.val]
    go_wp2
    exact bodyPost_ret (v := .tuple #[.agg #[.int .i64 m.size, .slice m.B.ga m.B.t.len m.B.cap, .slice m.E.ga m.E.t.len m.E.cap], .int .i64 0]) (by simp [results, Try.results26, go_sem, e0, e1, e2]) rfl ⟨HA.out, HBe.out⟩
  · have hne : ((ck : Int) != 0) = true := by simp [hc]
    have HR := hide (Hz.out hc)
    clear hc Hz Hy
    have d0 := bR1.cell 0
    have d1 := bR1.cell 1
    have d2 := bR1.cell 2
    have df := bR1.frozen
    have bR3 := bR1.set3 (.int .i64 0) (.slice none 0 0) (.slice none 0 0)
    have e0 := bR3.cell 0
    have e1 := bR3.cell 1
    have e2 := bR3.cell 2
    unfold Ytjhkadffaephmaa.set3 at e0 e1 e2
    simp at d0 d1 d2 e0 e1 e2
    have HBe := hide (below3 hB (show w.heap.size ≤ w.heap.size + 1 by omega) (.int .i64 0) (.slice none 0 0) (.slice none 0 0))
    go_wp2
    exact bodyPost_ret (v := .tuple #[.agg #[.int .i64 0, .slice none 0 0, .slice none 0 0], .int .i64 ck]) (by simp [results, Try.results26, go_sem, e0, e1, e2]) rfl ⟨⟨nilAlg, rfl, HR.out.symm, nilAlg_in _ _, nilAlg_from _ _⟩, HBe.out⟩

theorem planBuild_any (p : PlanM) (w : World) (hin : p.In w.heap.size w) :
    Calls Try.prog 26 #[p.head.val] w fun e w' => Answer p.res p.chk e w' ∧ Below w.heap.size w w' :=
  (planBuild_own p w hin).mono fun _ _ ⟨⟨m, h1, h2, h3, _⟩, hb⟩ => ⟨⟨m, h1, h2, h3⟩, hb⟩

end Go.Proofs.Ytjhkadffaephmaa
