/-
  algebra.Laws, Strict, Distributive.
-/
import Derived.Test.YtjhkadffaephmaaFirst
namespace Go.Proofs.Ytjhkadffaephmaa
open Go.RowKit


set_option maxHeartbeats 1000000 in
theorem laws_any (a : AlgM) (w : World) (h : a.In w.heap.size w) :
    Calls Try.prog 15 #[a.val] w fun e w' => e = .returned (.tuple #[(a.alg.tell [1, 2, 3, 4, 5, 6, 7]).val, .int .i64 a.alg.check]) ∧ Below w.heap.size w w' := by
  have hb0 : Below w.heap.size w (((w.alloc (.cells #[.int .i64 a.size, a.B.val, a.E.val] 24)).alloc (.cells #[.int .i64 0, .int .i64 0, .int .i64 0, .int .i64 0, .int .i64 0] 26)).alloc (.cells #[.int .i64 1, .int .i64 2, .int .i64 3, .int .i64 4, .int .i64 5, .int .i64 6, .int .i64 7] 3)) :=
    (((Below.refl _ w).alloc (Nat.le_refl _) _).alloc (by simp) _).alloc (by simp; omega) _
  have bR := (Blk.new (w.alloc (.cells #[.int .i64 a.size, a.B.val, a.E.val] 24)) #[.int .i64 0, .int .i64 0, .int .i64 0, .int .i64 0, .int .i64 0] 26).alloc (.cells #[.int .i64 1, .int .i64 2, .int .i64 3, .int .i64 4, .int .i64 5, .int .i64 6, .int .i64 7] 3)
  have bL := Blk.new ((w.alloc (.cells #[.int .i64 a.size, a.B.val, a.E.val] 24)).alloc (.cells #[.int .i64 0, .int .i64 0, .int .i64 0, .int .i64 0, .int .i64 0] 26)) #[.int .i64 1, .int .i64 2, .int .i64 3, .int .i64 4, .int .i64 5, .int .i64 6, .int .i64 7] 3
  simp only [World.size_alloc] at bR bL
  have hcall := firstBroken_any a [1, 2, 3, 4, 5, 6, 7] (by decide) (by decide) (w.heap.size + 1 + 1) _ ((h.below hb0 (Nat.le_refl _)).mono hb0.size) bL.lt (fun i hi => by
    rw [bL.cell i]
    match i, hi with
    | 0, _ => rfl
    | 1, _ => rfl
    | 2, _ => rfl
    | 3, _ => rfl
    | 4, _ => rfl
    | 5, _ => rfl
    | 6, _ => rfl)
  have HC := hide hcall
  clear hcall
  generalize a.alg.check = ck at *
  generalize a.alg.tell [1, 2, 3, 4, 5, 6, 7] = fb at *
  simp only [AlgM.val]
  go_enter Try.func15, Try.ntmps15
  go_wp2_with fail
  go_at_call 55
  refine HC.out.mono ?_
  rintro e w3 ⟨rfl, hb3⟩
  have bR4 := bR.below hb3 bR.lt
  have dR0 := bR4.cell 0
  have dR1 := bR4.cell 1
  have dR2 := bR4.cell 2
  have dR3 := bR4.cell 3
  have dR4 := bR4.cell 4
  have fR := bR4.frozen
  simp at dR0 dR1 dR2 dR3 dR4
  have hBw3 := hide (hb0.trans (hb3.mono hb0.size))
  clear HC hb3
  obtain ⟨fl, fa, fb', fc, fe⟩ := fb
  simp only [Brk.val]
  go_wp2
  have bR5 := bR4.set5 (.int .i64 fl) (.int .i64 fa) (.int .i64 fb') (.int .i64 fc) (.int .i64 fe)
  have e0 := bR5.cell 0
  have e1 := bR5.cell 1
  have e2 := bR5.cell 2
  have e3 := bR5.cell 3
  have e4 := bR5.cell 4
  unfold Ytjhkadffaephmaa.set5 at e0 e1 e2 e3 e4
  simp at e0 e1 e2 e3 e4
  refine bodyPost_ret (v := .tuple #[Brk.val ⟨fl, fa, fb', fc, fe⟩, .int .i64 ck]) (by simp [results, Try.results15, go_sem, e0, e1, e2, e3, e4, Brk.val]) rfl ⟨rfl, ?_⟩
  exact below5 hBw3.out (show w.heap.size ≤ w.heap.size + 1 by omega) _ _ _ _ _

set_option maxHeartbeats 1000000 in
theorem strict_any (a : AlgM) (w : World) (h : a.In w.heap.size w) :
    Calls Try.prog 16 #[a.val] w fun e w' => e = .returned (.tuple #[(a.alg.tell [8]).val, .int .i64 a.alg.check]) ∧ Below w.heap.size w w' := by
  have hb0 : Below w.heap.size w (((w.alloc (.cells #[.int .i64 a.size, a.B.val, a.E.val] 24)).alloc (.cells #[.int .i64 0, .int .i64 0, .int .i64 0, .int .i64 0, .int .i64 0] 26)).alloc (.cells #[.int .i64 8] 3)) :=
    (((Below.refl _ w).alloc (Nat.le_refl _) _).alloc (by simp) _).alloc (by simp; omega) _
  have bR := (Blk.new (w.alloc (.cells #[.int .i64 a.size, a.B.val, a.E.val] 24)) #[.int .i64 0, .int .i64 0, .int .i64 0, .int .i64 0, .int .i64 0] 26).alloc (.cells #[.int .i64 8] 3)
  have bL := Blk.new ((w.alloc (.cells #[.int .i64 a.size, a.B.val, a.E.val] 24)).alloc (.cells #[.int .i64 0, .int .i64 0, .int .i64 0, .int .i64 0, .int .i64 0] 26)) #[.int .i64 8] 3
  simp only [World.size_alloc] at bR bL
  have hcall := firstBroken_any a [8] (by decide) (by decide) (w.heap.size + 1 + 1) _ ((h.below hb0 (Nat.le_refl _)).mono hb0.size) bL.lt (fun i hi => by
    rw [bL.cell i]
    match i, hi with
    | 0, _ => rfl)
  have HC := hide hcall
  clear hcall
  generalize a.alg.check = ck at *
  generalize a.alg.tell [8] = fb at *
  simp only [AlgM.val]
  go_enter Try.func16, Try.ntmps16
  go_wp2_with fail
  go_at_call 55
  refine HC.out.mono ?_
  rintro e w3 ⟨rfl, hb3⟩
  have bR4 := bR.below hb3 bR.lt
  have dR0 := bR4.cell 0
  have dR1 := bR4.cell 1
  have dR2 := bR4.cell 2
  have dR3 := bR4.cell 3
  have dR4 := bR4.cell 4
  have fR := bR4.frozen
  simp at dR0 dR1 dR2 dR3 dR4
  have hBw3 := hide (hb0.trans (hb3.mono hb0.size))
  clear HC hb3
  obtain ⟨fl, fa, fb', fc, fe⟩ := fb
  simp only [Brk.val]
  go_wp2
  have bR5 := bR4.set5 (.int .i64 fl) (.int .i64 fa) (.int .i64 fb') (.int .i64 fc) (.int .i64 fe)
  have e0 := bR5.cell 0
  have e1 := bR5.cell 1
  have e2 := bR5.cell 2
  have e3 := bR5.cell 3
  have e4 := bR5.cell 4
  unfold Ytjhkadffaephmaa.set5 at e0 e1 e2 e3 e4
  simp at e0 e1 e2 e3 e4
  refine bodyPost_ret (v := .tuple #[Brk.val ⟨fl, fa, fb', fc, fe⟩, .int .i64 ck]) (by simp [results, Try.results16, go_sem, e0, e1, e2, e3, e4, Brk.val]) rfl ⟨rfl, ?_⟩
  exact below5 hBw3.out (show w.heap.size ≤ w.heap.size + 1 by omega) _ _ _ _ _

set_option maxHeartbeats 1000000 in
theorem distributive_any (a : AlgM) (w : World) (h : a.In w.heap.size w) :
    Calls Try.prog 17 #[a.val] w fun e w' => e = .returned (.tuple #[(a.alg.tell [9]).val, .int .i64 a.alg.check]) ∧ Below w.heap.size w w' := by
  have hb0 : Below w.heap.size w (((w.alloc (.cells #[.int .i64 a.size, a.B.val, a.E.val] 24)).alloc (.cells #[.int .i64 0, .int .i64 0, .int .i64 0, .int .i64 0, .int .i64 0] 26)).alloc (.cells #[.int .i64 9] 3)) :=
    (((Below.refl _ w).alloc (Nat.le_refl _) _).alloc (by simp) _).alloc (by simp; omega) _
  have bR := (Blk.new (w.alloc (.cells #[.int .i64 a.size, a.B.val, a.E.val] 24)) #[.int .i64 0, .int .i64 0, .int .i64 0, .int .i64 0, .int .i64 0] 26).alloc (.cells #[.int .i64 9] 3)
  have bL := Blk.new ((w.alloc (.cells #[.int .i64 a.size, a.B.val, a.E.val] 24)).alloc (.cells #[.int .i64 0, .int .i64 0, .int .i64 0, .int .i64 0, .int .i64 0] 26)) #[.int .i64 9] 3
  simp only [World.size_alloc] at bR bL
  have hcall := firstBroken_any a [9] (by decide) (by decide) (w.heap.size + 1 + 1) _ ((h.below hb0 (Nat.le_refl _)).mono hb0.size) bL.lt (fun i hi => by
    rw [bL.cell i]
    match i, hi with
    | 0, _ => rfl)
  have HC := hide hcall
  clear hcall
  generalize a.alg.check = ck at *
  generalize a.alg.tell [9] = fb at *
  simp only [AlgM.val]
  go_enter Try.func17, Try.ntmps17
  go_wp2_with fail
  go_at_call 55
  refine HC.out.mono ?_
  rintro e w3 ⟨rfl, hb3⟩
  have bR4 := bR.below hb3 bR.lt
  have dR0 := bR4.cell 0
  have dR1 := bR4.cell 1
  have dR2 := bR4.cell 2
  have dR3 := bR4.cell 3
  have dR4 := bR4.cell 4
  have fR := bR4.frozen
  simp at dR0 dR1 dR2 dR3 dR4
  have hBw3 := hide (hb0.trans (hb3.mono hb0.size))
  clear HC hb3
  obtain ⟨fl, fa, fb', fc, fe⟩ := fb
  simp only [Brk.val]
  go_wp2
  have bR5 := bR4.set5 (.int .i64 fl) (.int .i64 fa) (.int .i64 fb') (.int .i64 fc) (.int .i64 fe)
  have e0 := bR5.cell 0
  have e1 := bR5.cell 1
  have e2 := bR5.cell 2
  have e3 := bR5.cell 3
  have e4 := bR5.cell 4
  unfold Ytjhkadffaephmaa.set5 at e0 e1 e2 e3 e4
  simp at e0 e1 e2 e3 e4
  refine bodyPost_ret (v := .tuple #[Brk.val ⟨fl, fa, fb', fc, fe⟩, .int .i64 ck]) (by simp [results, Try.results17, go_sem, e0, e1, e2, e3, e4, Brk.val]) rfl ⟨rfl, ?_⟩
  exact below5 hBw3.out (show w.heap.size ≤ w.heap.size + 1 by omega) _ _ _ _ _

end Go.Proofs.Ytjhkadffaephmaa
