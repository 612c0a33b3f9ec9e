/-
  signpostref.HoldsOf at law 8.
-/
import Derived.Test.YtjhkadffaephmaaRefHolds
namespace Go.Proofs.Ytjhkadffaephmaa
open Go.RowKit

set_option maxRecDepth 100000 in
set_option maxHeartbeats 2000000 in
theorem refHolds_8t (a : AlgM) (g : a.alg.Good) (x : Brk) (f : a.alg.Fits x) (w : World) (h : a.In w.heap.size w) (hl : x.law = 8) (hg : (x.a == a.size - 1) = true) :
    Calls Try.prog 25 #[a.val, x.val] w fun e w' => e = .returned (.bool (a.alg.holds x)) ∧ Below w.heap.size w w' := by
  have s0 : 2 ≤ a.size := g.lo
  have s1 : a.size ≤ 24 := g.hi
  have hbl : (a.B.t.len : Int) = a.size := g.bl
  have hga := h.B.ga (by omega)
  have fa : x.a < a.size := f.a_lt g
  have fb : x.b < a.size := f.b_lt g
  have fc : x.c < a.size := f.c_lt g
  have fa0 := f.a0
  have fb0 := f.b0
  have fc0 := f.c0
  have fe0 := f.e0
  have fe : x.e < a.E.t.len := f.e_lt (by omega)
  have hge := h.E.ga (by omega)
  obtain ⟨l, xa, xb, xc, xe⟩ := x
  simp only at hl fa fb fc fa0 fb0 fc0 fe0 fe hg
  subst hl
  obtain ⟨i, rfl⟩ := Int.eq_ofNat_of_zero_le fa0
  obtain ⟨j, rfl⟩ := Int.eq_ofNat_of_zero_le fb0
  obtain ⟨k, rfl⟩ := Int.eq_ofNat_of_zero_le fc0
  obtain ⟨m, rfl⟩ := Int.eq_ofNat_of_zero_le fe0
  obtain ⟨z, hz⟩ := Int.eq_ofNat_of_zero_le (show 0 ≤ a.size - 1 by omega)
  have hI := frame_in0 h (.cells #[.int .i64 a.size, .slice (some ⟨a.B.gb, a.B.go, none⟩) a.B.t.len a.B.cap, .slice (some ⟨a.E.gb, a.E.go, none⟩) a.E.t.len a.E.cap] 24) (.cells #[.int .i64 8, .int .i64 i, .int .i64 j, .int .i64 k, .int .i64 m] 26)
  have hav : a.val = .agg #[.int .i64 a.size, .slice (some ⟨a.B.gb, a.B.go, none⟩) a.B.t.len a.B.cap, .slice (some ⟨a.E.gb, a.E.go, none⟩) a.E.t.len a.E.cap] := by simp only [AlgM.val, Mat.val, hga, hge]
  obtain ⟨q1, uq1, Eq1, lq1, cq1, rq1, vq1⟩ := best_at g hI i j (by omega) (by omega)
  obtain ⟨q2, uq2, Eq2, cq2, rq2, vq2⟩ := edge_at g hI m i (by omega) (by omega)
  have Hfin := hide (show a.alg.holds ⟨8, i, j, k, m⟩ = true by simp only [Alg.holds]; rw [show a.alg.size - 1 = (z : Int) from hz]; rw [hz] at hg; simp [hg])
  rw [hav]
  clear Eq1 Eq2 hbl f g hI h hav hga hge
  rw [hz] at hg
  simp only [Brk.val]
  go_enter Try.func25, Try.ntmps25
  go_wp2_with fail
  go_quiet (fail)
  go_wp2_with fail
  go_quiet (fail)
  go_wp2
  go_ret
  exact ⟨by rw [Hfin.out]; rfl, below_drewN (frame_below w _ _ _) _⟩

set_option maxRecDepth 100000 in
set_option maxHeartbeats 2000000 in
theorem refHolds_8f (a : AlgM) (g : a.alg.Good) (x : Brk) (f : a.alg.Fits x) (w : World) (h : a.In w.heap.size w) (hl : x.law = 8) (hg : (x.a == a.size - 1) = false) (hg2 : (a.alg.E.get x.e x.a != x.a) = false) :
    Calls Try.prog 25 #[a.val, x.val] w fun e w' => e = .returned (.bool (a.alg.holds x)) ∧ Below w.heap.size w w' := by
  have s0 : 2 ≤ a.size := g.lo
  have s1 : a.size ≤ 24 := g.hi
  have hbl : (a.B.t.len : Int) = a.size := g.bl
  have hga := h.B.ga (by omega)
  have fa : x.a < a.size := f.a_lt g
  have fb : x.b < a.size := f.b_lt g
  have fc : x.c < a.size := f.c_lt g
  have fa0 := f.a0
  have fb0 := f.b0
  have fc0 := f.c0
  have fe0 := f.e0
  have fe : x.e < a.E.t.len := f.e_lt (by omega)
  have hge := h.E.ga (by omega)
  obtain ⟨l, xa, xb, xc, xe⟩ := x
  simp only at hl fa fb fc fa0 fb0 fc0 fe0 fe hg hg2
  subst hl
  obtain ⟨i, rfl⟩ := Int.eq_ofNat_of_zero_le fa0
  obtain ⟨j, rfl⟩ := Int.eq_ofNat_of_zero_le fb0
  obtain ⟨k, rfl⟩ := Int.eq_ofNat_of_zero_le fc0
  obtain ⟨m, rfl⟩ := Int.eq_ofNat_of_zero_le fe0
  obtain ⟨z, hz⟩ := Int.eq_ofNat_of_zero_le (show 0 ≤ a.size - 1 by omega)
  have hI := frame_in0 h (.cells #[.int .i64 a.size, .slice (some ⟨a.B.gb, a.B.go, none⟩) a.B.t.len a.B.cap, .slice (some ⟨a.E.gb, a.E.go, none⟩) a.E.t.len a.E.cap] 24) (.cells #[.int .i64 8, .int .i64 i, .int .i64 j, .int .i64 k, .int .i64 m] 26)
  have hav : a.val = .agg #[.int .i64 a.size, .slice (some ⟨a.B.gb, a.B.go, none⟩) a.B.t.len a.B.cap, .slice (some ⟨a.E.gb, a.E.go, none⟩) a.E.t.len a.E.cap] := by simp only [AlgM.val, Mat.val, hga, hge]
  obtain ⟨q1, uq1, Eq1, lq1, cq1, rq1, vq1⟩ := best_at g hI i j (by omega) (by omega)
  obtain ⟨q2, uq2, Eq2, cq2, rq2, vq2⟩ := edge_at g hI m i (by omega) (by omega)
  have HG := hide (show ((q2 : Int) != (i : Int)) = false by rw [← Eq2]; exact hg2)
  have Hfin := hide (show a.alg.holds ⟨8, i, j, k, m⟩ = false by simp only [Alg.holds]; rw [show a.alg.size - 1 = (z : Int) from hz, Eq2]; rw [hz] at hg; simp [hg]; intro _; simpa [Eq2] using hg2)
  rw [hav]
  clear Eq1 Eq2 hbl f g hI h hav hga hge
  rw [hz] at hg
  have hg3 := HG.out
  clear hg2 HG
  simp only [Brk.val]
  go_enter Try.func25, Try.ntmps25
  go_wp2_with fail
  go_quiet (fail)
  go_wp2_with fail
  go_quiet (fail)
  go_wp2
  go_ret
  exact ⟨by rw [Hfin.out]; rfl, below_drewN (frame_below w _ _ _) _⟩

set_option maxRecDepth 100000 in
set_option maxHeartbeats 2000000 in
theorem refHolds_8g (a : AlgM) (g : a.alg.Good) (x : Brk) (f : a.alg.Fits x) (w : World) (h : a.In w.heap.size w) (hl : x.law = 8) (hg : (x.a == a.size - 1) = false) (hg2 : (a.alg.E.get x.e x.a != x.a) = true) :
    Calls Try.prog 25 #[a.val, x.val] w fun e w' => e = .returned (.bool (a.alg.holds x)) ∧ Below w.heap.size w w' := by
  have s0 : 2 ≤ a.size := g.lo
  have s1 : a.size ≤ 24 := g.hi
  have hbl : (a.B.t.len : Int) = a.size := g.bl
  have hga := h.B.ga (by omega)
  have fa : x.a < a.size := f.a_lt g
  have fb : x.b < a.size := f.b_lt g
  have fc : x.c < a.size := f.c_lt g
  have fa0 := f.a0
  have fb0 := f.b0
  have fc0 := f.c0
  have fe0 := f.e0
  have fe : x.e < a.E.t.len := f.e_lt (by omega)
  have hge := h.E.ga (by omega)
  obtain ⟨l, xa, xb, xc, xe⟩ := x
  simp only at hl fa fb fc fa0 fb0 fc0 fe0 fe hg hg2
  subst hl
  obtain ⟨i, rfl⟩ := Int.eq_ofNat_of_zero_le fa0
  obtain ⟨j, rfl⟩ := Int.eq_ofNat_of_zero_le fb0
  obtain ⟨k, rfl⟩ := Int.eq_ofNat_of_zero_le fc0
  obtain ⟨m, rfl⟩ := Int.eq_ofNat_of_zero_le fe0
  obtain ⟨z, hz⟩ := Int.eq_ofNat_of_zero_le (show 0 ≤ a.size - 1 by omega)
  have hI := frame_in0 h (.cells #[.int .i64 a.size, .slice (some ⟨a.B.gb, a.B.go, none⟩) a.B.t.len a.B.cap, .slice (some ⟨a.E.gb, a.E.go, none⟩) a.E.t.len a.E.cap] 24) (.cells #[.int .i64 8, .int .i64 i, .int .i64 j, .int .i64 k, .int .i64 m] 26)
  have hav : a.val = .agg #[.int .i64 a.size, .slice (some ⟨a.B.gb, a.B.go, none⟩) a.B.t.len a.B.cap, .slice (some ⟨a.E.gb, a.E.go, none⟩) a.E.t.len a.E.cap] := by simp only [AlgM.val, Mat.val, hga, hge]
  obtain ⟨q1, uq1, Eq1, lq1, cq1, rq1, vq1⟩ := best_at g hI i j (by omega) (by omega)
  obtain ⟨q2, uq2, Eq2, cq2, rq2, vq2⟩ := edge_at g hI m i (by omega) (by omega)
  obtain ⟨q3, uq3, Eq3, lq3, cq3, rq3, vq3⟩ := best_at g hI i q2 (by omega) (by omega)
  have HG := hide (show ((q2 : Int) != (i : Int)) = true by rw [← Eq2]; exact hg2)
  have Hfin := hide (show a.alg.holds ⟨8, i, j, k, m⟩ = ((q3 : Int) == (i : Int)) by simp only [Alg.holds]; rw [show a.alg.size - 1 = (z : Int) from hz, Eq2, Eq3, HG.out]; rw [hz] at hg; rw [hg]; simp)
  rw [hav]
  clear Eq1 Eq2 Eq3 hbl f g hI h hav hga hge
  rw [hz] at hg
  have hg3 := HG.out
  clear hg2 HG
  simp only [Brk.val]
  go_enter Try.func25, Try.ntmps25
  go_wp2_with fail
  go_quiet (fail)
  go_wp2_with fail
  go_quiet (fail)
  go_wp2
  go_ret
  exact ⟨by rw [Hfin.out]; rfl, below_drewN (frame_below w _ _ _) _⟩

end Go.Proofs.Ytjhkadffaephmaa
