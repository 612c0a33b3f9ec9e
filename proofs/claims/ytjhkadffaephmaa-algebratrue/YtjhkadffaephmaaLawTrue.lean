/-
  signpostlaw.AlgebraTrue: the walk.
-/
import Derived.Test.YtjhkadffaephmaaPureD
import Derived.Test.YtjhkadffaephmaaBegun
namespace Go.Proofs.Ytjhkadffaephmaa
open Go.RowKit

theorem holdsE_any (a : AlgM) (b : Brk) (w : World) (h : a.In w.heap.size w) (hwf : (Lit.int .i64 b.law).wf = true) :
    Calls Try.prog 23 #[a.val, b.val] w fun e w' => e = .returned (.tuple #[.bool (a.alg.holdsR b), .int .i64 (a.alg.holdsE b)]) ∧ Below w.heap.size w w' := by
  by_cases hc : a.alg.check = 0
  · by_cases hl : 1 ≤ b.law ∧ b.law ≤ 9
    · have := holdsE_law a b w h hc hl.1 hl.2
      have e1 : a.alg.holdsE b = if a.alg.fitsB b = false then 3 else 0 := by unfold Alg.holdsE; rw [if_neg (by simp [hc]), if_neg (by omega)]
      have e2 : a.alg.holdsR b = if a.alg.fitsB b = false then false else a.alg.holds b := by
        unfold Alg.holdsR; rw [e1]; cases a.alg.fitsB b <;> simp
      rw [e1, e2]; exact this
    · have := holdsE_kind a b w h hc hwf hl
      have e1 : a.alg.holdsE b = 7 := by unfold Alg.holdsE; rw [if_neg (by simp [hc]), if_pos (by omega)]
      have e2 : a.alg.holdsR b = false := by unfold Alg.holdsR; rw [e1]; rfl
      rw [e1, e2]; exact this
  · have := holdsE_bad a b w h hc
    have e1 : a.alg.holdsE b = a.alg.check := by unfold Alg.holdsE; rw [if_pos hc]
    have e2 : a.alg.holdsR b = false := by unfold Alg.holdsR; rw [e1, if_neg hc]
    rw [e1, e2]; exact this

set_option maxHeartbeats 4000000 in
theorem lawTrue_any (a : AlgM) (b : Brk) (w : World) (h : a.In w.heap.size w) (hwf : (Lit.int .i64 b.law).wf = true) :
    Calls Try.prog 5 #[a.val, b.val] w fun e w' => e = .returned (.bool true) ∧ Below w.heap.size w w' := by
  have hb0 := fun o1 o2 => frame_below w o1 o2 0
  have bA : Blk ((w.alloc (.cells #[.int .i64 a.size, a.B.val, a.E.val] 24)).alloc (.cells b.cells 26)) w.heap.size #[.int .i64 a.size, a.B.val, a.E.val] 24 := (Blk.new w _ _).alloc _
  have bB : Blk ((w.alloc (.cells #[.int .i64 a.size, a.B.val, a.E.val] 24)).alloc (.cells b.cells 26)) (w.heap.size + 1) b.cells 26 := Blk.new' (by simp)
  have hB0 := hb0 (.cells #[.int .i64 a.size, a.B.val, a.E.val] 24) (.cells b.cells 26)
  have hB0 : Below w.heap.size w ((w.alloc (.cells #[.int .i64 a.size, a.B.val, a.E.val] 24)).alloc (.cells b.cells 26)) := hB0
  clear hb0
  simp only [AlgM.val, Brk.val, Brk.cells] at *
  go_enter Try.func5, Try.ntmps5
  go_wp2_with fail
  go_at_call 21
  refine (begun_any _).mono ?_
  rintro e w1 ⟨rfl, hb1⟩
  have bA1 := bA.below hb1 bA.lt
  have bB1 := bB.below hb1 bB.lt
  have hB1 := hB0.trans (hb1.mono hB0.size)
  clear hb1 bA bB hB0
  have hI1 := (h.below hB1 (Nat.le_refl _)).mono hB1.size
  have x0 := bA1.cell 0
  have x1 := bA1.cell 1
  have x2 := bA1.cell 2
  simp at x0 x1 x2
  have HL := hide (laws_any a w1 hI1)
  have Hbr := hide (fun (hc : a.alg.check = 0) hn => tell_broken (a := a.alg) hc hn)
  have Hno := hide (fun hn he hl => tell_none (a := a.alg) (b := b) hn he hl)
  have Hck := hide (fun (hc : a.alg.check ≠ 0) => show a.alg.tell [1, 2, 3, 4, 5, 6, 7] = Brk.none by unfold Alg.tell; rw [if_neg hc])
  generalize a.alg.tell [1, 2, 3, 4, 5, 6, 7] = fb at *
  generalize hck : a.alg.check = ck at *
  go_wp2_with fail
  go_at_call 15
  refine HL.out.mono ?_
  rintro e w2 ⟨rfl, hb2⟩
  have bA2 := bA1.below hb2 bA1.lt
  have bB2 := bB1.below hb2 bB1.lt
  have hB2 := hB1.trans (hb2.mono hB1.size)
  clear hb2 bA1 bB1 hB1 x0 x1 x2 HL hI1
  by_cases hc : ck = 0
  · subst hc
    by_cases hn : fb = Brk.none
    · subst hn
      clear Hbr Hck
      simp only [Brk.val, Brk.none]
      have bA3 := bA2.alloc (.cells #[.int .i64 0, .int .i64 0, .int .i64 0, .int .i64 0, .int .i64 0] 26)
      have bB3 := bB2.alloc (.cells #[.int .i64 0, .int .i64 0, .int .i64 0, .int .i64 0, .int .i64 0] 26)
      have hB3 := hB2.alloc hB2.size (.cells #[.int .i64 0, .int .i64 0, .int .i64 0, .int .i64 0, .int .i64 0] 26)
      have HH := hide (holdsE_any a b _ ((h.below hB3 (Nat.le_refl _)).mono hB3.size) hwf)
      have x0 := bA3.cell 0
      have x1 := bA3.cell 1
      have x2 := bA3.cell 2
      have y0 := bB3.cell 0
      have y1 := bB3.cell 1
      have y2 := bB3.cell 2
      have y3 := bB3.cell 3
      have y4 := bB3.cell 4
      simp at x0 x1 x2 y0 y1 y2 y3 y4
      have Hno2 : Hid (a.alg.holdsE b = 0 → b.law ≤ 7 → a.alg.holdsR b = true) := hide (fun he hl => by unfold Alg.holdsR; rw [if_pos he]; exact Hno.out rfl he hl)
      clear Hno bA2 bB2 hB2 hwf hck
      generalize a.alg.holdsE b = he at *
      generalize a.alg.holdsR b = ho at *
      go_wp2_with fail
      go_at_call 23
      refine HH.out.mono ?_
      rintro e w4 ⟨rfl, hb4⟩
      have bB4 := bB3.below hb4 bB3.lt
      have z0 := bB4.cell 0
      simp at z0
      have hB4 := hB3.trans (hb4.mono hB3.size)
      clear hb4 HH x0 x1 x2 y0 y1 y2 y3 y4 bA3 bB3 hB3 bB4
      by_cases e0 : he = 0
      · subst e0
        by_cases e1 : b.law ≤ 7
        · obtain rfl := Hno2.out rfl e1
          go_wp2
          go_ret
          exact ⟨rfl, hB4⟩
        · have e1' : 7 < b.law := by omega
          go_wp2
          go_ret
          exact ⟨rfl, hB4⟩
      · have hne : (he != 0) = true := by simp [e0]
        go_wp2
        go_ret
        exact ⟨rfl, hB4⟩
    · obtain ⟨q1, q2, q3, q4⟩ := Hbr.out rfl hn
      have hR : a.alg.holdsR fb = false := by unfold Alg.holdsR; rw [if_pos q1]; exact q2
      clear Hno Hck Hbr hn q2 hck
      have bA3 := bA2.alloc (.cells fb.cells 26)
      have bF := Blk.new w2 fb.cells 26
      have hB3 := hB2.alloc hB2.size (.cells fb.cells 26)
      have HH := hide (holdsE_any a fb _ ((h.below hB3 (Nat.le_refl _)).mono hB3.size) (WalkArith.wf_i64 (by omega)))
      rw [q1, hR] at HH
      clear q1 hR bA2 bB2 hB2 hwf
      simp only [AlgM.val, Brk.val, Brk.cells] at *
      have x0 := bA3.cell 0
      have x1 := bA3.cell 1
      have x2 := bA3.cell 2
      simp at x0 x1 x2
      have hlz : (fb.law != 0) = true := by simp; omega
      go_wp2_with fail
      go_at_call 23
      refine HH.out.mono ?_
      rintro e w4 ⟨rfl, hb4⟩
      have bF4 := bF.below hb4 bF.lt
      have z0 := bF4.cell 0
      simp at z0
      have hB4 := hB3.trans (hb4.mono hB3.size)
      clear hb4 HH x0 x1 x2 bA3 hB3 bF4
      go_wp2
      go_ret
      exact ⟨rfl, hB4⟩
  · obtain rfl := Hck.out hc
    have hne : (ck != 0) = true := by simp [hc]
    clear Hbr Hno Hck hck
    simp only [Brk.val, Brk.none]
    go_wp2
    go_ret
    exact ⟨rfl, hB2.alloc hB2.size _⟩

end Go.Proofs.Ytjhkadffaephmaa
