/-
  Our own texts, bundled: a claim holds few files.
-/
import Derived.Test.YtjhkadffaephmabGreatCutEnginePlaysAI
/-
 signpostref.HoldsOf at the laws 1 to 3.
-/
namespace Go.Proofs.YtjhkadffaephmabGreat
open Go.RowKit

set_option maxRecDepth 100000 in
set_option maxHeartbeats 2000000 in
theorem refHolds_1 (a : AlgM) (g : a.alg.Good) (x : Brk) (f : a.alg.Fits x) (w : World) (h : a.In w.heap.size w) (hl : x.law = 1) :
  Calls Tryz.prog 79 #[a.val, x.val] w fun e w' => e = .returned (.bool (a.alg.holds x)) ∧ Below w.heap.size w w' := by
 have s0 : 2 ≤ a.size := g.lo
 have s1 : a.size ≤ 24 := g.hi
 have hbl : (a.B.t.len : Int) = a.size := g.bl
 have hga := h.B.ga (by omega)
 have fa : x.a < a.size := f.a_lt g
 have fb : x.b < a.size := f.b_lt g
 have fc : x.c < a.size := f.c_lt g
 have fa0 := f.a0
 have fb0 := f.b0
 have fc0 := f.c0
 have fe0 := f.e0
 obtain ⟨l, xa, xb, xc, xe⟩ := x
 simp only at hl fa fb fc fa0 fb0 fc0 fe0
 subst hl
 obtain ⟨i, rfl⟩ := Int.eq_ofNat_of_zero_le fa0
 obtain ⟨j, rfl⟩ := Int.eq_ofNat_of_zero_le fb0
 obtain ⟨k, rfl⟩ := Int.eq_ofNat_of_zero_le fc0
 obtain ⟨m, rfl⟩ := Int.eq_ofNat_of_zero_le fe0
 obtain ⟨z, hz⟩ := Int.eq_ofNat_of_zero_le (show 0 ≤ a.size - 1 by omega)
 have hI := frame_in0 h (.cells #[.int .i64 a.size, .slice (some ⟨a.B.gb, a.B.go, none⟩) a.B.t.len a.B.cap, a.E.val] 24) (.cells #[.int .i64 1, .int .i64 i, .int .i64 j, .int .i64 k, .int .i64 m] 93)
 have hav : a.val = .agg #[.int .i64 a.size, .slice (some ⟨a.B.gb, a.B.go, none⟩) a.B.t.len a.B.cap, a.E.val] := by simp only [AlgM.val, Mat.val, hga]
 obtain ⟨q1, uq1, Eq1, lq1, cq1, rq1, vq1⟩ := best_at g hI i j (by omega) (by omega)
 obtain ⟨q2, uq2, Eq2, lq2, cq2, rq2, vq2⟩ := best_at g hI j i (by omega) (by omega)
 have Hfin := hide (show a.alg.holds ⟨1, i, j, k, m⟩ = ((q1 : Int) == (q2 : Int)) by simp [Alg.holds, Eq1, Eq2])
 rw [hav]
 clear Eq1 Eq2 hbl f g hI h hav hga
 simp only [Brk.val]
 go_enter Tryz.func79, Tryz.ntmps79
 go_wp2_with fail
 go_quiet (fail)
 go_wp2_with fail
 go_quiet (fail)
 go_wp2
 go_ret
 exact ⟨by rw [Hfin.out]; rfl, below_drewN (frame_below w _ _ _) _⟩

set_option maxRecDepth 100000 in
set_option maxHeartbeats 2000000 in
theorem refHolds_2 (a : AlgM) (g : a.alg.Good) (x : Brk) (f : a.alg.Fits x) (w : World) (h : a.In w.heap.size w) (hl : x.law = 2) :
  Calls Tryz.prog 79 #[a.val, x.val] w fun e w' => e = .returned (.bool (a.alg.holds x)) ∧ Below w.heap.size w w' := by
 have s0 : 2 ≤ a.size := g.lo
 have s1 : a.size ≤ 24 := g.hi
 have hbl : (a.B.t.len : Int) = a.size := g.bl
 have hga := h.B.ga (by omega)
 have fa : x.a < a.size := f.a_lt g
 have fb : x.b < a.size := f.b_lt g
 have fc : x.c < a.size := f.c_lt g
 have fa0 := f.a0
 have fb0 := f.b0
 have fc0 := f.c0
 have fe0 := f.e0
 obtain ⟨l, xa, xb, xc, xe⟩ := x
 simp only at hl fa fb fc fa0 fb0 fc0 fe0
 subst hl
 obtain ⟨i, rfl⟩ := Int.eq_ofNat_of_zero_le fa0
 obtain ⟨j, rfl⟩ := Int.eq_ofNat_of_zero_le fb0
 obtain ⟨k, rfl⟩ := Int.eq_ofNat_of_zero_le fc0
 obtain ⟨m, rfl⟩ := Int.eq_ofNat_of_zero_le fe0
 obtain ⟨z, hz⟩ := Int.eq_ofNat_of_zero_le (show 0 ≤ a.size - 1 by omega)
 have hI := frame_in0 h (.cells #[.int .i64 a.size, .slice (some ⟨a.B.gb, a.B.go, none⟩) a.B.t.len a.B.cap, a.E.val] 24) (.cells #[.int .i64 2, .int .i64 i, .int .i64 j, .int .i64 k, .int .i64 m] 93)
 have hav : a.val = .agg #[.int .i64 a.size, .slice (some ⟨a.B.gb, a.B.go, none⟩) a.B.t.len a.B.cap, a.E.val] := by simp only [AlgM.val, Mat.val, hga]
 obtain ⟨q1, uq1, Eq1, lq1, cq1, rq1, vq1⟩ := best_at g hI i j (by omega) (by omega)
 obtain ⟨q2, uq2, Eq2, lq2, cq2, rq2, vq2⟩ := best_at g hI j k (by omega) (by omega)
 obtain ⟨q3, uq3, Eq3, lq3, cq3, rq3, vq3⟩ := best_at g hI i q2 (by omega) (by omega)
 obtain ⟨q4, uq4, Eq4, lq4, cq4, rq4, vq4⟩ := best_at g hI q1 k (by omega) (by omega)
 have Hfin := hide (show a.alg.holds ⟨2, i, j, k, m⟩ = ((q3 : Int) == (q4 : Int)) by simp [Alg.holds, Eq1, Eq2, Eq3, Eq4])
 rw [hav]
 clear Eq1 Eq2 Eq3 Eq4 hbl f g hI h hav hga
 simp only [Brk.val]
 go_enter Tryz.func79, Tryz.ntmps79
 go_wp2_with fail
 go_quiet (fail)
 go_wp2_with fail
 go_quiet (fail)
 go_wp2
 go_ret
 exact ⟨by rw [Hfin.out]; rfl, below_drewN (frame_below w _ _ _) _⟩

set_option maxRecDepth 100000 in
set_option maxHeartbeats 2000000 in
theorem refHolds_3t (a : AlgM) (g : a.alg.Good) (x : Brk) (f : a.alg.Fits x) (w : World) (h : a.In w.heap.size w) (hl : x.law = 3) (hg : (a.alg.B.get x.a x.b == x.a) = true) :
  Calls Tryz.prog 79 #[a.val, x.val] w fun e w' => e = .returned (.bool (a.alg.holds x)) ∧ Below w.heap.size w w' := by
 have s0 : 2 ≤ a.size := g.lo
 have s1 : a.size ≤ 24 := g.hi
 have hbl : (a.B.t.len : Int) = a.size := g.bl
 have hga := h.B.ga (by omega)
 have fa : x.a < a.size := f.a_lt g
 have fb : x.b < a.size := f.b_lt g
 have fc : x.c < a.size := f.c_lt g
 have fa0 := f.a0
 have fb0 := f.b0
 have fc0 := f.c0
 have fe0 := f.e0
 obtain ⟨l, xa, xb, xc, xe⟩ := x
 simp only at hl fa fb fc fa0 fb0 fc0 fe0 hg
 subst hl
 obtain ⟨i, rfl⟩ := Int.eq_ofNat_of_zero_le fa0
 obtain ⟨j, rfl⟩ := Int.eq_ofNat_of_zero_le fb0
 obtain ⟨k, rfl⟩ := Int.eq_ofNat_of_zero_le fc0
 obtain ⟨m, rfl⟩ := Int.eq_ofNat_of_zero_le fe0
 obtain ⟨z, hz⟩ := Int.eq_ofNat_of_zero_le (show 0 ≤ a.size - 1 by omega)
 have hI := frame_in0 h (.cells #[.int .i64 a.size, .slice (some ⟨a.B.gb, a.B.go, none⟩) a.B.t.len a.B.cap, a.E.val] 24) (.cells #[.int .i64 3, .int .i64 i, .int .i64 j, .int .i64 k, .int .i64 m] 93)
 have hav : a.val = .agg #[.int .i64 a.size, .slice (some ⟨a.B.gb, a.B.go, none⟩) a.B.t.len a.B.cap, a.E.val] := by simp only [AlgM.val, Mat.val, hga]
 obtain ⟨q1, uq1, Eq1, lq1, cq1, rq1, vq1⟩ := best_at g hI i j (by omega) (by omega)
 have HG := hide (show ((q1 : Int) == (i : Int)) = true by rw [← Eq1]; exact hg)
 have Hfin := hide (show a.alg.holds ⟨3, i, j, k, m⟩ = true by simp [Alg.holds, Eq1]; left; simpa [Eq1] using hg)
 rw [hav]
 clear Eq1 hbl f g hI h hav hga
 have hg2 : ((q1 : Int) == (i : Int)) = true := HG.out
 clear hg HG
 simp only [Brk.val]
 go_enter Tryz.func79, Tryz.ntmps79
 go_wp2_with fail
 go_quiet (fail)
 go_wp2_with fail
 go_ret
 exact ⟨by rw [Hfin.out]; rfl, frame_below w _ _ _⟩

set_option maxRecDepth 100000 in
set_option maxHeartbeats 2000000 in
theorem refHolds_3f (a : AlgM) (g : a.alg.Good) (x : Brk) (f : a.alg.Fits x) (w : World) (h : a.In w.heap.size w) (hl : x.law = 3) (hg : (a.alg.B.get x.a x.b == x.a) = false) :
  Calls Tryz.prog 79 #[a.val, x.val] w fun e w' => e = .returned (.bool (a.alg.holds x)) ∧ Below w.heap.size w w' := by
 have s0 : 2 ≤ a.size := g.lo
 have s1 : a.size ≤ 24 := g.hi
 have hbl : (a.B.t.len : Int) = a.size := g.bl
 have hga := h.B.ga (by omega)
 have fa : x.a < a.size := f.a_lt g
 have fb : x.b < a.size := f.b_lt g
 have fc : x.c < a.size := f.c_lt g
 have fa0 := f.a0
 have fb0 := f.b0
 have fc0 := f.c0
 have fe0 := f.e0
 obtain ⟨l, xa, xb, xc, xe⟩ := x
 simp only at hl fa fb fc fa0 fb0 fc0 fe0 hg
 subst hl
 obtain ⟨i, rfl⟩ := Int.eq_ofNat_of_zero_le fa0
 obtain ⟨j, rfl⟩ := Int.eq_ofNat_of_zero_le fb0
 obtain ⟨k, rfl⟩ := Int.eq_ofNat_of_zero_le fc0
 obtain ⟨m, rfl⟩ := Int.eq_ofNat_of_zero_le fe0
 obtain ⟨z, hz⟩ := Int.eq_ofNat_of_zero_le (show 0 ≤ a.size - 1 by omega)
 have hI := frame_in0 h (.cells #[.int .i64 a.size, .slice (some ⟨a.B.gb, a.B.go, none⟩) a.B.t.len a.B.cap, a.E.val] 24) (.cells #[.int .i64 3, .int .i64 i, .int .i64 j, .int .i64 k, .int .i64 m] 93)
 have hav : a.val = .agg #[.int .i64 a.size, .slice (some ⟨a.B.gb, a.B.go, none⟩) a.B.t.len a.B.cap, a.E.val] := by simp only [AlgM.val, Mat.val, hga]
 obtain ⟨q1, uq1, Eq1, lq1, cq1, rq1, vq1⟩ := best_at g hI i j (by omega) (by omega)
 have HG := hide (show ((q1 : Int) == (i : Int)) = false by rw [← Eq1]; exact hg)
 have Hfin := hide (show a.alg.holds ⟨3, i, j, k, m⟩ = ((q1 : Int) == (j : Int)) by simp only [Alg.holds]; rw [Eq1, HG.out]; simp)
 rw [hav]
 clear Eq1 hbl f g hI h hav hga
 have hg2 : ((q1 : Int) == (i : Int)) = false := HG.out
 clear hg HG
 simp only [Brk.val]
 go_enter Tryz.func79, Tryz.ntmps79
 go_wp2_with fail
 go_quiet (fail)
 go_wp2_with fail
 go_ret
 exact ⟨by rw [Hfin.out]; rfl, frame_below w _ _ _⟩

end Go.Proofs.YtjhkadffaephmabGreat

/-
 signpostref.HoldsOf at the laws 4 to 7.
-/
namespace Go.Proofs.YtjhkadffaephmabGreat
open Go.RowKit

set_option maxRecDepth 100000 in
set_option maxHeartbeats 2000000 in
theorem refHolds_4 (a : AlgM) (g : a.alg.Good) (x : Brk) (f : a.alg.Fits x) (w : World) (h : a.In w.heap.size w) (hl : x.law = 4) :
  Calls Tryz.prog 79 #[a.val, x.val] w fun e w' => e = .returned (.bool (a.alg.holds x)) ∧ Below w.heap.size w w' := by
 have s0 : 2 ≤ a.size := g.lo
 have s1 : a.size ≤ 24 := g.hi
 have hbl : (a.B.t.len : Int) = a.size := g.bl
 have hga := h.B.ga (by omega)
 have fa : x.a < a.size := f.a_lt g
 have fb : x.b < a.size := f.b_lt g
 have fc : x.c < a.size := f.c_lt g
 have fa0 := f.a0
 have fb0 := f.b0
 have fc0 := f.c0
 have fe0 := f.e0
 obtain ⟨l, xa, xb, xc, xe⟩ := x
 simp only at hl fa fb fc fa0 fb0 fc0 fe0
 subst hl
 obtain ⟨i, rfl⟩ := Int.eq_ofNat_of_zero_le fa0
 obtain ⟨j, rfl⟩ := Int.eq_ofNat_of_zero_le fb0
 obtain ⟨k, rfl⟩ := Int.eq_ofNat_of_zero_le fc0
 obtain ⟨m, rfl⟩ := Int.eq_ofNat_of_zero_le fe0
 obtain ⟨z, hz⟩ := Int.eq_ofNat_of_zero_le (show 0 ≤ a.size - 1 by omega)
 have hI := frame_in0 h (.cells #[.int .i64 a.size, .slice (some ⟨a.B.gb, a.B.go, none⟩) a.B.t.len a.B.cap, a.E.val] 24) (.cells #[.int .i64 4, .int .i64 i, .int .i64 j, .int .i64 k, .int .i64 m] 93)
 have hav : a.val = .agg #[.int .i64 a.size, .slice (some ⟨a.B.gb, a.B.go, none⟩) a.B.t.len a.B.cap, a.E.val] := by simp only [AlgM.val, Mat.val, hga]
 obtain ⟨q1, uq1, Eq1, lq1, cq1, rq1, vq1⟩ := best_at g hI i j (by omega) (by omega)
 obtain ⟨q2, uq2, Eq2, lq2, cq2, rq2, vq2⟩ := best_at g hI 0 i (by omega) (by omega)
 simp only [Int.natCast_zero, Nat.add_zero] at rq2 lq2 Eq2
 have Hfin := hide (show a.alg.holds ⟨4, i, j, k, m⟩ = ((q2 : Int) == 0) by simp [Alg.holds, Eq2])
 rw [hav]
 clear Eq1 Eq2 hbl f g hI h hav hga
 simp only [Brk.val]
 go_enter Tryz.func79, Tryz.ntmps79
 go_wp2_with fail
 go_quiet (fail)
 go_wp2_with fail
 go_quiet (fail)
 go_wp2
 go_ret
 exact ⟨by rw [Hfin.out]; rfl, below_drewN (frame_below w _ _ _) _⟩

set_option maxRecDepth 100000 in
set_option maxHeartbeats 2000000 in
theorem refHolds_5 (a : AlgM) (g : a.alg.Good) (x : Brk) (f : a.alg.Fits x) (w : World) (h : a.In w.heap.size w) (hl : x.law = 5) :
  Calls Tryz.prog 79 #[a.val, x.val] w fun e w' => e = .returned (.bool (a.alg.holds x)) ∧ Below w.heap.size w w' := by
 have s0 : 2 ≤ a.size := g.lo
 have s1 : a.size ≤ 24 := g.hi
 have hbl : (a.B.t.len : Int) = a.size := g.bl
 have hga := h.B.ga (by omega)
 have fa : x.a < a.size := f.a_lt g
 have fb : x.b < a.size := f.b_lt g
 have fc : x.c < a.size := f.c_lt g
 have fa0 := f.a0
 have fb0 := f.b0
 have fc0 := f.c0
 have fe0 := f.e0
 obtain ⟨l, xa, xb, xc, xe⟩ := x
 simp only at hl fa fb fc fa0 fb0 fc0 fe0
 subst hl
 obtain ⟨i, rfl⟩ := Int.eq_ofNat_of_zero_le fa0
 obtain ⟨j, rfl⟩ := Int.eq_ofNat_of_zero_le fb0
 obtain ⟨k, rfl⟩ := Int.eq_ofNat_of_zero_le fc0
 obtain ⟨m, rfl⟩ := Int.eq_ofNat_of_zero_le fe0
 obtain ⟨z, hz⟩ := Int.eq_ofNat_of_zero_le (show 0 ≤ a.size - 1 by omega)
 have hI := frame_in0 h (.cells #[.int .i64 a.size, .slice (some ⟨a.B.gb, a.B.go, none⟩) a.B.t.len a.B.cap, a.E.val] 24) (.cells #[.int .i64 5, .int .i64 i, .int .i64 j, .int .i64 k, .int .i64 m] 93)
 have hav : a.val = .agg #[.int .i64 a.size, .slice (some ⟨a.B.gb, a.B.go, none⟩) a.B.t.len a.B.cap, a.E.val] := by simp only [AlgM.val, Mat.val, hga]
 obtain ⟨q1, uq1, Eq1, lq1, cq1, rq1, vq1⟩ := best_at g hI i j (by omega) (by omega)
 obtain ⟨q2, uq2, Eq2, lq2, cq2, rq2, vq2⟩ := best_at g hI z i (by omega) (by omega)
 have Hfin := hide (show a.alg.holds ⟨5, i, j, k, m⟩ = ((q2 : Int) == (i : Int)) by simp only [Alg.holds]; rw [show a.alg.size - 1 = (z : Int) from hz, Eq2]; simp)
 rw [hav]
 clear Eq1 Eq2 hbl f g hI h hav hga
 simp only [Brk.val]
 go_enter Tryz.func79, Tryz.ntmps79
 go_wp2_with fail
 go_quiet (fail)
 go_wp2_with fail
 go_quiet (fail)
 go_wp2
 go_ret
 exact ⟨by rw [Hfin.out]; rfl, below_drewN (frame_below w _ _ _) _⟩

set_option maxRecDepth 100000 in
set_option maxHeartbeats 2000000 in
theorem refHolds_6 (a : AlgM) (g : a.alg.Good) (x : Brk) (f : a.alg.Fits x) (w : World) (h : a.In w.heap.size w) (hl : x.law = 6) :
  Calls Tryz.prog 79 #[a.val, x.val] w fun e w' => e = .returned (.bool (a.alg.holds x)) ∧ Below w.heap.size w w' := by
 have s0 : 2 ≤ a.size := g.lo
 have s1 : a.size ≤ 24 := g.hi
 have hbl : (a.B.t.len : Int) = a.size := g.bl
 have hga := h.B.ga (by omega)
 have fa : x.a < a.size := f.a_lt g
 have fb : x.b < a.size := f.b_lt g
 have fc : x.c < a.size := f.c_lt g
 have fa0 := f.a0
 have fb0 := f.b0
 have fc0 := f.c0
 have fe0 := f.e0
 have fe : x.e < a.E.t.len := f.e_lt (by omega)
 have hge := h.E.ga (by omega)
 obtain ⟨l, xa, xb, xc, xe⟩ := x
 simp only at hl fa fb fc fa0 fb0 fc0 fe0 fe
 subst hl
 obtain ⟨i, rfl⟩ := Int.eq_ofNat_of_zero_le fa0
 obtain ⟨j, rfl⟩ := Int.eq_ofNat_of_zero_le fb0
 obtain ⟨k, rfl⟩ := Int.eq_ofNat_of_zero_le fc0
 obtain ⟨m, rfl⟩ := Int.eq_ofNat_of_zero_le fe0
 obtain ⟨z, hz⟩ := Int.eq_ofNat_of_zero_le (show 0 ≤ a.size - 1 by omega)
 have hI := frame_in0 h (.cells #[.int .i64 a.size, .slice (some ⟨a.B.gb, a.B.go, none⟩) a.B.t.len a.B.cap, .slice (some ⟨a.E.gb, a.E.go, none⟩) a.E.t.len a.E.cap] 24) (.cells #[.int .i64 6, .int .i64 i, .int .i64 j, .int .i64 k, .int .i64 m] 93)
 have hav : a.val = .agg #[.int .i64 a.size, .slice (some ⟨a.B.gb, a.B.go, none⟩) a.B.t.len a.B.cap, .slice (some ⟨a.E.gb, a.E.go, none⟩) a.E.t.len a.E.cap] := by simp only [AlgM.val, Mat.val, hga, hge]
 obtain ⟨q1, uq1, Eq1, lq1, cq1, rq1, vq1⟩ := best_at g hI i j (by omega) (by omega)
 obtain ⟨q2, uq2, Eq2, cq2, rq2, vq2⟩ := edge_at g hI m z (by omega) (by omega)
 have Hfin := hide (show a.alg.holds ⟨6, i, j, k, m⟩ = ((q2 : Int) == (z : Int)) by simp only [Alg.holds]; rw [show a.alg.size - 1 = (z : Int) from hz, Eq2]; simp)
 rw [hav]
 clear Eq1 Eq2 hbl f g hI h hav hga hge
 simp only [Brk.val]
 go_enter Tryz.func79, Tryz.ntmps79
 go_wp2_with fail
 go_quiet (fail)
 go_wp2_with fail
 go_ret
 exact ⟨by rw [Hfin.out]; rfl, frame_below w _ _ _⟩

set_option maxRecDepth 100000 in
set_option maxHeartbeats 2000000 in
theorem refHolds_7 (a : AlgM) (g : a.alg.Good) (x : Brk) (f : a.alg.Fits x) (w : World) (h : a.In w.heap.size w) (hl : x.law = 7) :
  Calls Tryz.prog 79 #[a.val, x.val] w fun e w' => e = .returned (.bool (a.alg.holds x)) ∧ Below w.heap.size w w' := by
 have s0 : 2 ≤ a.size := g.lo
 have s1 : a.size ≤ 24 := g.hi
 have hbl : (a.B.t.len : Int) = a.size := g.bl
 have hga := h.B.ga (by omega)
 have fa : x.a < a.size := f.a_lt g
 have fb : x.b < a.size := f.b_lt g
 have fc : x.c < a.size := f.c_lt g
 have fa0 := f.a0
 have fb0 := f.b0
 have fc0 := f.c0
 have fe0 := f.e0
 have fe : x.e < a.E.t.len := f.e_lt (by omega)
 have hge := h.E.ga (by omega)
 obtain ⟨l, xa, xb, xc, xe⟩ := x
 simp only at hl fa fb fc fa0 fb0 fc0 fe0 fe
 subst hl
 obtain ⟨i, rfl⟩ := Int.eq_ofNat_of_zero_le fa0
 obtain ⟨j, rfl⟩ := Int.eq_ofNat_of_zero_le fb0
 obtain ⟨k, rfl⟩ := Int.eq_ofNat_of_zero_le fc0
 obtain ⟨m, rfl⟩ := Int.eq_ofNat_of_zero_le fe0
 obtain ⟨z, hz⟩ := Int.eq_ofNat_of_zero_le (show 0 ≤ a.size - 1 by omega)
 have hI := frame_in0 h (.cells #[.int .i64 a.size, .slice (some ⟨a.B.gb, a.B.go, none⟩) a.B.t.len a.B.cap, .slice (some ⟨a.E.gb, a.E.go, none⟩) a.E.t.len a.E.cap] 24) (.cells #[.int .i64 7, .int .i64 i, .int .i64 j, .int .i64 k, .int .i64 m] 93)
 have hav : a.val = .agg #[.int .i64 a.size, .slice (some ⟨a.B.gb, a.B.go, none⟩) a.B.t.len a.B.cap, .slice (some ⟨a.E.gb, a.E.go, none⟩) a.E.t.len a.E.cap] := by simp only [AlgM.val, Mat.val, hga, hge]
 obtain ⟨q1, uq1, Eq1, lq1, cq1, rq1, vq1⟩ := best_at g hI i j (by omega) (by omega)
 obtain ⟨q2, uq2, Eq2, cq2, rq2, vq2⟩ := edge_at g hI m i (by omega) (by omega)
 obtain ⟨q3, uq3, Eq3, lq3, cq3, rq3, vq3⟩ := best_at g hI i q2 (by omega) (by omega)
 have Hfin := hide (show a.alg.holds ⟨7, i, j, k, m⟩ = ((q3 : Int) == (i : Int)) by simp [Alg.holds, Eq2, Eq3])
 rw [hav]
 clear Eq1 Eq2 Eq3 hbl f g hI h hav hga hge
 simp only [Brk.val]
 go_enter Tryz.func79, Tryz.ntmps79
 go_wp2_with fail
 go_quiet (fail)
 go_wp2_with fail
 go_quiet (fail)
 go_wp2
 go_ret
 exact ⟨by rw [Hfin.out]; rfl, below_drewN (frame_below w _ _ _) _⟩

end Go.Proofs.YtjhkadffaephmabGreat

/-
 signpostref.HoldsOf at law 8.
-/
namespace Go.Proofs.YtjhkadffaephmabGreat
open Go.RowKit

set_option maxRecDepth 100000 in
set_option maxHeartbeats 2000000 in
theorem refHolds_8t (a : AlgM) (g : a.alg.Good) (x : Brk) (f : a.alg.Fits x) (w : World) (h : a.In w.heap.size w) (hl : x.law = 8) (hg : (x.a == a.size - 1) = true) :
  Calls Tryz.prog 79 #[a.val, x.val] w fun e w' => e = .returned (.bool (a.alg.holds x)) ∧ Below w.heap.size w w' := by
 have s0 : 2 ≤ a.size := g.lo
 have s1 : a.size ≤ 24 := g.hi
 have hbl : (a.B.t.len : Int) = a.size := g.bl
 have hga := h.B.ga (by omega)
 have fa : x.a < a.size := f.a_lt g
 have fb : x.b < a.size := f.b_lt g
 have fc : x.c < a.size := f.c_lt g
 have fa0 := f.a0
 have fb0 := f.b0
 have fc0 := f.c0
 have fe0 := f.e0
 have fe : x.e < a.E.t.len := f.e_lt (by omega)
 have hge := h.E.ga (by omega)
 obtain ⟨l, xa, xb, xc, xe⟩ := x
 simp only at hl fa fb fc fa0 fb0 fc0 fe0 fe hg
 subst hl
 obtain ⟨i, rfl⟩ := Int.eq_ofNat_of_zero_le fa0
 obtain ⟨j, rfl⟩ := Int.eq_ofNat_of_zero_le fb0
 obtain ⟨k, rfl⟩ := Int.eq_ofNat_of_zero_le fc0
 obtain ⟨m, rfl⟩ := Int.eq_ofNat_of_zero_le fe0
 obtain ⟨z, hz⟩ := Int.eq_ofNat_of_zero_le (show 0 ≤ a.size - 1 by omega)
 have hI := frame_in0 h (.cells #[.int .i64 a.size, .slice (some ⟨a.B.gb, a.B.go, none⟩) a.B.t.len a.B.cap, .slice (some ⟨a.E.gb, a.E.go, none⟩) a.E.t.len a.E.cap] 24) (.cells #[.int .i64 8, .int .i64 i, .int .i64 j, .int .i64 k, .int .i64 m] 93)
 have hav : a.val = .agg #[.int .i64 a.size, .slice (some ⟨a.B.gb, a.B.go, none⟩) a.B.t.len a.B.cap, .slice (some ⟨a.E.gb, a.E.go, none⟩) a.E.t.len a.E.cap] := by simp only [AlgM.val, Mat.val, hga, hge]
 obtain ⟨q1, uq1, Eq1, lq1, cq1, rq1, vq1⟩ := best_at g hI i j (by omega) (by omega)
 obtain ⟨q2, uq2, Eq2, cq2, rq2, vq2⟩ := edge_at g hI m i (by omega) (by omega)
 have Hfin := hide (show a.alg.holds ⟨8, i, j, k, m⟩ = true by simp only [Alg.holds]; rw [show a.alg.size - 1 = (z : Int) from hz]; rw [hz] at hg; simp [hg])
 rw [hav]
 clear Eq1 Eq2 hbl f g hI h hav hga hge
 rw [hz] at hg
 simp only [Brk.val]
 go_enter Tryz.func79, Tryz.ntmps79
 go_wp2_with fail
 go_quiet (fail)
 go_wp2_with fail
 go_quiet (fail)
 go_wp2
 go_ret
 exact ⟨by rw [Hfin.out]; rfl, below_drewN (frame_below w _ _ _) _⟩

set_option maxRecDepth 100000 in
set_option maxHeartbeats 2000000 in
theorem refHolds_8f (a : AlgM) (g : a.alg.Good) (x : Brk) (f : a.alg.Fits x) (w : World) (h : a.In w.heap.size w) (hl : x.law = 8) (hg : (x.a == a.size - 1) = false) (hg2 : (a.alg.E.get x.e x.a != x.a) = false) :
  Calls Tryz.prog 79 #[a.val, x.val] w fun e w' => e = .returned (.bool (a.alg.holds x)) ∧ Below w.heap.size w w' := by
 have s0 : 2 ≤ a.size := g.lo
 have s1 : a.size ≤ 24 := g.hi
 have hbl : (a.B.t.len : Int) = a.size := g.bl
 have hga := h.B.ga (by omega)
 have fa : x.a < a.size := f.a_lt g
 have fb : x.b < a.size := f.b_lt g
 have fc : x.c < a.size := f.c_lt g
 have fa0 := f.a0
 have fb0 := f.b0
 have fc0 := f.c0
 have fe0 := f.e0
 have fe : x.e < a.E.t.len := f.e_lt (by omega)
 have hge := h.E.ga (by omega)
 obtain ⟨l, xa, xb, xc, xe⟩ := x
 simp only at hl fa fb fc fa0 fb0 fc0 fe0 fe hg hg2
 subst hl
 obtain ⟨i, rfl⟩ := Int.eq_ofNat_of_zero_le fa0
 obtain ⟨j, rfl⟩ := Int.eq_ofNat_of_zero_le fb0
 obtain ⟨k, rfl⟩ := Int.eq_ofNat_of_zero_le fc0
 obtain ⟨m, rfl⟩ := Int.eq_ofNat_of_zero_le fe0
 obtain ⟨z, hz⟩ := Int.eq_ofNat_of_zero_le (show 0 ≤ a.size - 1 by omega)
 have hI := frame_in0 h (.cells #[.int .i64 a.size, .slice (some ⟨a.B.gb, a.B.go, none⟩) a.B.t.len a.B.cap, .slice (some ⟨a.E.gb, a.E.go, none⟩) a.E.t.len a.E.cap] 24) (.cells #[.int .i64 8, .int .i64 i, .int .i64 j, .int .i64 k, .int .i64 m] 93)
 have hav : a.val = .agg #[.int .i64 a.size, .slice (some ⟨a.B.gb, a.B.go, none⟩) a.B.t.len a.B.cap, .slice (some ⟨a.E.gb, a.E.go, none⟩) a.E.t.len a.E.cap] := by simp only [AlgM.val, Mat.val, hga, hge]
 obtain ⟨q1, uq1, Eq1, lq1, cq1, rq1, vq1⟩ := best_at g hI i j (by omega) (by omega)
 obtain ⟨q2, uq2, Eq2, cq2, rq2, vq2⟩ := edge_at g hI m i (by omega) (by omega)
 have HG := hide (show ((q2 : Int) != (i : Int)) = false by rw [← Eq2]; exact hg2)
 have Hfin := hide (show a.alg.holds ⟨8, i, j, k, m⟩ = false by simp only [Alg.holds]; rw [show a.alg.size - 1 = (z : Int) from hz, Eq2]; rw [hz] at hg; simp [hg]; intro _; simpa [Eq2] using hg2)
 rw [hav]
 clear Eq1 Eq2 hbl f g hI h hav hga hge
 rw [hz] at hg
 have hg3 := HG.out
 clear hg2 HG
 simp only [Brk.val]
 go_enter Tryz.func79, Tryz.ntmps79
 go_wp2_with fail
 go_quiet (fail)
 go_wp2_with fail
 go_quiet (fail)
 go_wp2
 go_ret
 exact ⟨by rw [Hfin.out]; rfl, below_drewN (frame_below w _ _ _) _⟩

set_option maxRecDepth 100000 in
set_option maxHeartbeats 2000000 in
theorem refHolds_8g (a : AlgM) (g : a.alg.Good) (x : Brk) (f : a.alg.Fits x) (w : World) (h : a.In w.heap.size w) (hl : x.law = 8) (hg : (x.a == a.size - 1) = false) (hg2 : (a.alg.E.get x.e x.a != x.a) = true) :
  Calls Tryz.prog 79 #[a.val, x.val] w fun e w' => e = .returned (.bool (a.alg.holds x)) ∧ Below w.heap.size w w' := by
 have s0 : 2 ≤ a.size := g.lo
 have s1 : a.size ≤ 24 := g.hi
 have hbl : (a.B.t.len : Int) = a.size := g.bl
 have hga := h.B.ga (by omega)
 have fa : x.a < a.size := f.a_lt g
 have fb : x.b < a.size := f.b_lt g
 have fc : x.c < a.size := f.c_lt g
 have fa0 := f.a0
 have fb0 := f.b0
 have fc0 := f.c0
 have fe0 := f.e0
 have fe : x.e < a.E.t.len := f.e_lt (by omega)
 have hge := h.E.ga (by omega)
 obtain ⟨l, xa, xb, xc, xe⟩ := x
 simp only at hl fa fb fc fa0 fb0 fc0 fe0 fe hg hg2
 subst hl
 obtain ⟨i, rfl⟩ := Int.eq_ofNat_of_zero_le fa0
 obtain ⟨j, rfl⟩ := Int.eq_ofNat_of_zero_le fb0
 obtain ⟨k, rfl⟩ := Int.eq_ofNat_of_zero_le fc0
 obtain ⟨m, rfl⟩ := Int.eq_ofNat_of_zero_le fe0
 obtain ⟨z, hz⟩ := Int.eq_ofNat_of_zero_le (show 0 ≤ a.size - 1 by omega)
 have hI := frame_in0 h (.cells #[.int .i64 a.size, .slice (some ⟨a.B.gb, a.B.go, none⟩) a.B.t.len a.B.cap, .slice (some ⟨a.E.gb, a.E.go, none⟩) a.E.t.len a.E.cap] 24) (.cells #[.int .i64 8, .int .i64 i, .int .i64 j, .int .i64 k, .int .i64 m] 93)
 have hav : a.val = .agg #[.int .i64 a.size, .slice (some ⟨a.B.gb, a.B.go, none⟩) a.B.t.len a.B.cap, .slice (some ⟨a.E.gb, a.E.go, none⟩) a.E.t.len a.E.cap] := by simp only [AlgM.val, Mat.val, hga, hge]
 obtain ⟨q1, uq1, Eq1, lq1, cq1, rq1, vq1⟩ := best_at g hI i j (by omega) (by omega)
 obtain ⟨q2, uq2, Eq2, cq2, rq2, vq2⟩ := edge_at g hI m i (by omega) (by omega)
 obtain ⟨q3, uq3, Eq3, lq3, cq3, rq3, vq3⟩ := best_at g hI i q2 (by omega) (by omega)
 have HG := hide (show ((q2 : Int) != (i : Int)) = true by rw [← Eq2]; exact hg2)
 have Hfin := hide (show a.alg.holds ⟨8, i, j, k, m⟩ = ((q3 : Int) == (i : Int)) by simp only [Alg.holds]; rw [show a.alg.size - 1 = (z : Int) from hz, Eq2, Eq3, HG.out]; rw [hz] at hg; rw [hg]; simp)
 rw [hav]
 clear Eq1 Eq2 Eq3 hbl f g hI h hav hga hge
 rw [hz] at hg
 have hg3 := HG.out
 clear hg2 HG
 simp only [Brk.val]
 go_enter Tryz.func79, Tryz.ntmps79
 go_wp2_with fail
 go_quiet (fail)
 go_wp2_with fail
 go_quiet (fail)
 go_wp2
 go_ret
 exact ⟨by rw [Hfin.out]; rfl, below_drewN (frame_below w _ _ _) _⟩

end Go.Proofs.YtjhkadffaephmabGreat

/-
 signpostref.HoldsOf at law 9.
-/
namespace Go.Proofs.YtjhkadffaephmabGreat
open Go.RowKit

set_option maxRecDepth 100000 in
set_option maxHeartbeats 2000000 in
theorem refHolds_9 (a : AlgM) (g : a.alg.Good) (x : Brk) (f : a.alg.Fits x) (w : World) (h : a.In w.heap.size w) (hl : x.law = 9) :
  Calls Tryz.prog 79 #[a.val, x.val] w fun e w' => e = .returned (.bool (a.alg.holds x)) ∧ Below w.heap.size w w' := by
 have s0 : 2 ≤ a.size := g.lo
 have s1 : a.size ≤ 24 := g.hi
 have hbl : (a.B.t.len : Int) = a.size := g.bl
 have hga := h.B.ga (by omega)
 have fa : x.a < a.size := f.a_lt g
 have fb : x.b < a.size := f.b_lt g
 have fc : x.c < a.size := f.c_lt g
 have fa0 := f.a0
 have fb0 := f.b0
 have fc0 := f.c0
 have fe0 := f.e0
 have fe : x.e < a.E.t.len := f.e_lt (by omega)
 have hge := h.E.ga (by omega)
 obtain ⟨l, xa, xb, xc, xe⟩ := x
 simp only at hl fa fb fc fa0 fb0 fc0 fe0 fe
 subst hl
 obtain ⟨i, rfl⟩ := Int.eq_ofNat_of_zero_le fa0
 obtain ⟨j, rfl⟩ := Int.eq_ofNat_of_zero_le fb0
 obtain ⟨k, rfl⟩ := Int.eq_ofNat_of_zero_le fc0
 obtain ⟨m, rfl⟩ := Int.eq_ofNat_of_zero_le fe0
 obtain ⟨z, hz⟩ := Int.eq_ofNat_of_zero_le (show 0 ≤ a.size - 1 by omega)
 have hI := frame_in0 h (.cells #[.int .i64 a.size, .slice (some ⟨a.B.gb, a.B.go, none⟩) a.B.t.len a.B.cap, .slice (some ⟨a.E.gb, a.E.go, none⟩) a.E.t.len a.E.cap] 24) (.cells #[.int .i64 9, .int .i64 i, .int .i64 j, .int .i64 k, .int .i64 m] 93)
 have hav : a.val = .agg #[.int .i64 a.size, .slice (some ⟨a.B.gb, a.B.go, none⟩) a.B.t.len a.B.cap, .slice (some ⟨a.E.gb, a.E.go, none⟩) a.E.t.len a.E.cap] := by simp only [AlgM.val, Mat.val, hga, hge]
 obtain ⟨q1, uq1, Eq1, lq1, cq1, rq1, vq1⟩ := best_at g hI i j (by omega) (by omega)
 obtain ⟨q2, uq2, Eq2, cq2, rq2, vq2⟩ := edge_at g hI m q1 (by omega) (by omega)
 obtain ⟨q3, uq3, Eq3, cq3, rq3, vq3⟩ := edge_at g hI m i (by omega) (by omega)
 obtain ⟨q4, uq4, Eq4, cq4, rq4, vq4⟩ := edge_at g hI m j (by omega) (by omega)
 obtain ⟨q5, uq5, Eq5, lq5, cq5, rq5, vq5⟩ := best_at g hI q3 q4 (by omega) (by omega)
 have Hfin := hide (show a.alg.holds ⟨9, i, j, k, m⟩ = ((q2 : Int) == (q5 : Int)) by simp [Alg.holds, Eq1, Eq2, Eq3, Eq4, Eq5])
 rw [hav]
 clear Eq1 Eq2 Eq3 Eq4 Eq5 hbl f g hI h hav hga hge
 simp only [Brk.val]
 go_enter Tryz.func79, Tryz.ntmps79
 go_wp2_with fail
 go_quiet (fail)
 go_wp2_with fail
 go_quiet (fail)
 go_wp2
 go_ret
 exact ⟨by rw [Hfin.out]; rfl, below_drewN (frame_below w _ _ _) _⟩

end Go.Proofs.YtjhkadffaephmabGreat

/-
 signpostref.HoldsOf, at whatever law.
-/
namespace Go.Proofs.YtjhkadffaephmabGreat
open Go.RowKit

theorem refHolds_any (a : AlgM) (g : a.alg.Good) (x : Brk) (f : a.alg.Fits x) (w : World) (h : a.In w.heap.size w) :
  Calls Tryz.prog 79 #[a.val, x.val] w fun e w' => e = .returned (.bool (a.alg.holds x)) ∧ Below w.heap.size w w' := by
 have l0 := f.l0
 have l1 := f.l1
 have hc : x.law = 1 ∨ x.law = 2 ∨ x.law = 3 ∨ x.law = 4 ∨ x.law = 5 ∨ x.law = 6 ∨ x.law = 7 ∨ x.law = 8 ∨ x.law = 9 := by omega
 rcases hc with hl | hl | hl | hl | hl | hl | hl | hl | hl
 ·exact refHolds_1 a g x f w h hl
 ·exact refHolds_2 a g x f w h hl
 ·cases hg : (a.alg.B.get x.a x.b == x.a)
  ·exact refHolds_3f a g x f w h hl hg
  ·exact refHolds_3t a g x f w h hl hg
 ·exact refHolds_4 a g x f w h hl
 ·exact refHolds_5 a g x f w h hl
 ·exact refHolds_6 a g x f w h hl
 ·exact refHolds_7 a g x f w h hl
 ·cases hg : (x.a == a.size - 1)
  ·cases hg2 : (a.alg.E.get x.e x.a != x.a)
   ·exact refHolds_8f a g x f w h hl hg hg2
   ·exact refHolds_8g a g x f w h hl hg hg2
  ·exact refHolds_8t a g x f w h hl hg
 ·exact refHolds_9 a g x f w h hl

end Go.Proofs.YtjhkadffaephmabGreat
