/-
  signpostref.HoldsOf at law 9.
-/
import Derived.Test.YtjhkadffaephmaaRefHolds
namespace Go.Proofs.Ytjhkadffaephmaa
open Go.RowKit

set_option maxRecDepth 100000 in
set_option maxHeartbeats 2000000 in
theorem refHolds_9 (a : AlgM) (g : a.alg.Good) (x : Brk) (f : a.alg.Fits x) (w : World) (h : a.In w.heap.size w) (hl : x.law = 9) :
    Calls Try.prog 25 #[a.val, x.val] w fun e w' => e = .returned (.bool (a.alg.holds x)) ∧ Below w.heap.size w w' := by
  have s0 : 2 ≤ a.size := g.lo
  have s1 : a.size ≤ 24 := g.hi
  have hbl : (a.B.t.len : Int) = a.size := g.bl
  have hga := h.B.ga (by omega)
  have fa : x.a < a.size := f.a_lt g
  have fb : x.b < a.size := f.b_lt g
  have fc : x.c < a.size := f.c_lt g
  have fa0 := f.a0
  have fb0 := f.b0
  have fc0 := f.c0
  have fe0 := f.e0
  have fe : x.e < a.E.t.len := f.e_lt (by omega)
  have hge := h.E.ga (by omega)
  obtain ⟨l, xa, xb, xc, xe⟩ := x
  simp only at hl fa fb fc fa0 fb0 fc0 fe0 fe
  subst hl
  obtain ⟨i, rfl⟩ := Int.eq_ofNat_of_zero_le fa0
  obtain ⟨j, rfl⟩ := Int.eq_ofNat_of_zero_le fb0
  obtain ⟨k, rfl⟩ := Int.eq_ofNat_of_zero_le fc0
  obtain ⟨m, rfl⟩ := Int.eq_ofNat_of_zero_le fe0
  obtain ⟨z, hz⟩ := Int.eq_ofNat_of_zero_le (show 0 ≤ a.size - 1 by omega)
  have hI := frame_in0 h (.cells #[.int .i64 a.size, .slice (some ⟨a.B.gb, a.B.go, none⟩) a.B.t.len a.B.cap, .slice (some ⟨a.E.gb, a.E.go, none⟩) a.E.t.len a.E.cap] 24) (.cells #[.int .i64 9, .int .i64 i, .int .i64 j, .int .i64 k, .int .i64 m] 26)
  have hav : a.val = .agg #[.int .i64 a.size, .slice (some ⟨a.B.gb, a.B.go, none⟩) a.B.t.len a.B.cap, .slice (some ⟨a.E.gb, a.E.go, none⟩) a.E.t.len a.E.cap] := by simp only [AlgM.val, Mat.val, hga, hge]
  obtain ⟨q1, uq1, Eq1, lq1, cq1, rq1, vq1⟩ := best_at g hI i j (by omega) (by omega)
  obtain ⟨q2, uq2, Eq2, cq2, rq2, vq2⟩ := edge_at g hI m q1 (by omega) (by omega)
  obtain ⟨q3, uq3, Eq3, cq3, rq3, vq3⟩ := edge_at g hI m i (by omega) (by omega)
  obtain ⟨q4, uq4, Eq4, cq4, rq4, vq4⟩ := edge_at g hI m j (by omega) (by omega)
  obtain ⟨q5, uq5, Eq5, lq5, cq5, rq5, vq5⟩ := best_at g hI q3 q4 (by omega) (by omega)
  have Hfin := hide (show a.alg.holds ⟨9, i, j, k, m⟩ = ((q2 : Int) == (q5 : Int)) by simp [Alg.holds, Eq1, Eq2, Eq3, Eq4, Eq5])
  rw [hav]
  clear Eq1 Eq2 Eq3 Eq4 Eq5 hbl f g hI h hav hga hge
  simp only [Brk.val]
  go_enter Try.func25, Try.ntmps25
  go_wp2_with fail
  go_quiet (fail)
  go_wp2_with fail
  go_quiet (fail)
  go_wp2
  go_ret
  exact ⟨by rw [Hfin.out]; rfl, below_drewN (frame_below w _ _ _) _⟩

end Go.Proofs.Ytjhkadffaephmaa
