/-
  Our own texts, bundled: a claim holds few files.
-/
import Derived.Test.YtjhkadffaephmabBundleAA
/-
  signpostref.Names; what HoldsOf reads.
-/
namespace Go.Proofs.Ytjhkadffaephmab
open Go.RowKit

set_option maxHeartbeats 1000000 in
theorem refNames_any (l : Int) (l0 : 1 ≤ l) (l1 : l ≤ 9) (w : World) :
    Calls Try.prog 197 #[.int .i64 l] w fun e w' => e = .returned (.tuple #[.int .i64 (routesOf l), .bool (edgeOf l)]) ∧ w' = w := by
  have hc : l = 1 ∨ l = 2 ∨ l = 3 ∨ l = 4 ∨ l = 5 ∨ l = 6 ∨ l = 7 ∨ l = 8 ∨ l = 9 := by omega
  rcases hc with rfl | rfl | rfl | rfl | rfl | rfl | rfl | rfl | rfl
  all_goals
    go_enter Try.func197, Try.ntmps197
    go_wp2
    go_ret2
    exact ⟨rfl, rfl⟩

theorem frame_in0 {a : AlgM} {w : World} (h : a.In w.heap.size w) (o1 o2 : Obj) : a.In w.heap.size ((w.alloc o1).alloc o2) := frame_in h (Nat.le_refl _) o1 o2 0

theorem best_at {a : AlgM} (g : a.alg.Good) {n : Nat} {W : World} (h : a.In n W) (r s : Nat) (hr : (r : Int) < a.size) (hs : (s : Int) < a.size) :
    ∃ q : Nat, (q : Int) < a.size ∧ a.alg.B.get r s = q ∧ (r : Int) < (a.B.t.len : Int) ∧ (s : Int) < (a.B.t.L r : Int) ∧
      W.cell? ⟨a.B.gb, a.B.go + r, none⟩ = some (.slice (some ⟨a.B.RB r, a.B.RO r, none⟩) (a.B.t.L r) (a.B.C r)) ∧ W.cell? ⟨a.B.RB r, a.B.RO r + s, none⟩ = some (.int .i64 q) := by
  have hbl : (a.B.t.len : Int) = a.size := g.bl
  have hlt : r < a.B.t.len := by omega
  have hL : (a.B.t.L r : Int) = a.size := g.bw r hlt
  have hsl : s < a.B.t.L r := by omega
  have hz : 0 ≤ a.B.t.Z r s ∧ a.B.t.Z r s < a.size := g.bz r hlt s hsl
  obtain ⟨q, hq⟩ := Int.eq_ofNat_of_zero_le hz.1
  have hrow := h.B.row r hlt
  rw [(h.B.addr r hlt (by omega)).1] at hrow
  have hcell := h.B.cell r hlt s hsl
  rw [hq] at hcell
  exact ⟨q, by omega, by show a.B.t.Z r s = q; omega, by omega, by omega, hrow, hcell⟩

theorem edge_at {a : AlgM} (g : a.alg.Good) {n : Nat} {W : World} (h : a.In n W) (r s : Nat) (hr : (r : Int) < a.E.t.len) (hs : (s : Int) < a.size) :
    ∃ q : Nat, (q : Int) < a.size ∧ a.alg.E.get r s = q ∧ (s : Int) < (a.E.t.L r : Int) ∧
      W.cell? ⟨a.E.gb, a.E.go + r, none⟩ = some (.slice (some ⟨a.E.RB r, a.E.RO r, none⟩) (a.E.t.L r) (a.E.C r)) ∧ W.cell? ⟨a.E.RB r, a.E.RO r + s, none⟩ = some (.int .i64 q) := by
  have hlt : r < a.E.t.len := by omega
  have hL : (a.E.t.L r : Int) = a.size := g.ew r hlt
  have hsl : s < a.E.t.L r := by omega
  have hz : 0 ≤ a.E.t.Z r s ∧ a.E.t.Z r s < a.size := g.ez r hlt s hsl
  obtain ⟨q, hq⟩ := Int.eq_ofNat_of_zero_le hz.1
  have hrow := h.E.row r hlt
  rw [(h.E.addr r hlt (by omega)).1] at hrow
  have hcell := h.E.cell r hlt s hsl
  rw [hq] at hcell
  exact ⟨q, by omega, by show a.E.t.Z r s = q; omega, by omega, hrow, hcell⟩

end Go.Proofs.Ytjhkadffaephmab

/-
  signpostref.HoldsOf at the laws 1 to 3.
-/
namespace Go.Proofs.Ytjhkadffaephmab
open Go.RowKit

set_option maxRecDepth 100000 in
set_option maxHeartbeats 2000000 in
theorem refHolds_1 (a : AlgM) (g : a.alg.Good) (x : Brk) (f : a.alg.Fits x) (w : World) (h : a.In w.heap.size w) (hl : x.law = 1) :
    Calls Try.prog 198 #[a.val, x.val] w fun e w' => e = .returned (.bool (a.alg.holds x)) ∧ Below w.heap.size w w' := by
  have s0 : 2 ≤ a.size := g.lo
  have s1 : a.size ≤ 24 := g.hi
  have hbl : (a.B.t.len : Int) = a.size := g.bl
  have hga := h.B.ga (by omega)
  have fa : x.a < a.size := f.a_lt g
  have fb : x.b < a.size := f.b_lt g
  have fc : x.c < a.size := f.c_lt g
  have fa0 := f.a0
  have fb0 := f.b0
  have fc0 := f.c0
  have fe0 := f.e0
  obtain ⟨l, xa, xb, xc, xe⟩ := x
  simp only at hl fa fb fc fa0 fb0 fc0 fe0
  subst hl
  obtain ⟨i, rfl⟩ := Int.eq_ofNat_of_zero_le fa0
  obtain ⟨j, rfl⟩ := Int.eq_ofNat_of_zero_le fb0
  obtain ⟨k, rfl⟩ := Int.eq_ofNat_of_zero_le fc0
  obtain ⟨m, rfl⟩ := Int.eq_ofNat_of_zero_le fe0
  obtain ⟨z, hz⟩ := Int.eq_ofNat_of_zero_le (show 0 ≤ a.size - 1 by omega)
  have hI := frame_in0 h (.cells #[.int .i64 a.size, .slice (some ⟨a.B.gb, a.B.go, none⟩) a.B.t.len a.B.cap, a.E.val] 38) (.cells #[.int .i64 1, .int .i64 i, .int .i64 j, .int .i64 k, .int .i64 m] 59)
  have hav : a.val = .agg #[.int .i64 a.size, .slice (some ⟨a.B.gb, a.B.go, none⟩) a.B.t.len a.B.cap, a.E.val] := by simp only [AlgM.val, Mat.val, hga]
  obtain ⟨q1, uq1, Eq1, lq1, cq1, rq1, vq1⟩ := best_at g hI i j (by omega) (by omega)
  obtain ⟨q2, uq2, Eq2, lq2, cq2, rq2, vq2⟩ := best_at g hI j i (by omega) (by omega)
  have Hfin := hide (show a.alg.holds ⟨1, i, j, k, m⟩ = ((q1 : Int) == (q2 : Int)) by simp [Alg.holds, Eq1, Eq2])
  rw [hav]
  clear Eq1 Eq2 hbl f g hI h hav hga
  simp only [Brk.val]
  go_enter Try.func198, Try.ntmps198
  go_wp2_with fail
  go_quiet (fail)
  go_wp2_with fail
  go_quiet (fail)
  go_wp2
  go_ret
  exact ⟨by rw [Hfin.out]; rfl, below_drewN (frame_below w _ _ _) _⟩

set_option maxRecDepth 100000 in
set_option maxHeartbeats 2000000 in
theorem refHolds_2 (a : AlgM) (g : a.alg.Good) (x : Brk) (f : a.alg.Fits x) (w : World) (h : a.In w.heap.size w) (hl : x.law = 2) :
    Calls Try.prog 198 #[a.val, x.val] w fun e w' => e = .returned (.bool (a.alg.holds x)) ∧ Below w.heap.size w w' := by
  have s0 : 2 ≤ a.size := g.lo
  have s1 : a.size ≤ 24 := g.hi
  have hbl : (a.B.t.len : Int) = a.size := g.bl
  have hga := h.B.ga (by omega)
  have fa : x.a < a.size := f.a_lt g
  have fb : x.b < a.size := f.b_lt g
  have fc : x.c < a.size := f.c_lt g
  have fa0 := f.a0
  have fb0 := f.b0
  have fc0 := f.c0
  have fe0 := f.e0
  obtain ⟨l, xa, xb, xc, xe⟩ := x
  simp only at hl fa fb fc fa0 fb0 fc0 fe0
  subst hl
  obtain ⟨i, rfl⟩ := Int.eq_ofNat_of_zero_le fa0
  obtain ⟨j, rfl⟩ := Int.eq_ofNat_of_zero_le fb0
  obtain ⟨k, rfl⟩ := Int.eq_ofNat_of_zero_le fc0
  obtain ⟨m, rfl⟩ := Int.eq_ofNat_of_zero_le fe0
  obtain ⟨z, hz⟩ := Int.eq_ofNat_of_zero_le (show 0 ≤ a.size - 1 by omega)
  have hI := frame_in0 h (.cells #[.int .i64 a.size, .slice (some ⟨a.B.gb, a.B.go, none⟩) a.B.t.len a.B.cap, a.E.val] 38) (.cells #[.int .i64 2, .int .i64 i, .int .i64 j, .int .i64 k, .int .i64 m] 59)
  have hav : a.val = .agg #[.int .i64 a.size, .slice (some ⟨a.B.gb, a.B.go, none⟩) a.B.t.len a.B.cap, a.E.val] := by simp only [AlgM.val, Mat.val, hga]
  obtain ⟨q1, uq1, Eq1, lq1, cq1, rq1, vq1⟩ := best_at g hI i j (by omega) (by omega)
  obtain ⟨q2, uq2, Eq2, lq2, cq2, rq2, vq2⟩ := best_at g hI j k (by omega) (by omega)
  obtain ⟨q3, uq3, Eq3, lq3, cq3, rq3, vq3⟩ := best_at g hI i q2 (by omega) (by omega)
  obtain ⟨q4, uq4, Eq4, lq4, cq4, rq4, vq4⟩ := best_at g hI q1 k (by omega) (by omega)
  have Hfin := hide (show a.alg.holds ⟨2, i, j, k, m⟩ = ((q3 : Int) == (q4 : Int)) by simp [Alg.holds, Eq1, Eq2, Eq3, Eq4])
  rw [hav]
  clear Eq1 Eq2 Eq3 Eq4 hbl f g hI h hav hga
  simp only [Brk.val]
  go_enter Try.func198, Try.ntmps198
  go_wp2_with fail
  go_quiet (fail)
  go_wp2_with fail
  go_quiet (fail)
  go_wp2
  go_ret
  exact ⟨by rw [Hfin.out]; rfl, below_drewN (frame_below w _ _ _) _⟩

set_option maxRecDepth 100000 in
set_option maxHeartbeats 2000000 in
theorem refHolds_3t (a : AlgM) (g : a.alg.Good) (x : Brk) (f : a.alg.Fits x) (w : World) (h : a.In w.heap.size w) (hl : x.law = 3) (hg : (a.alg.B.get x.a x.b == x.a) = true) :
    Calls Try.prog 198 #[a.val, x.val] w fun e w' => e = .returned (.bool (a.alg.holds x)) ∧ Below w.heap.size w w' := by
  have s0 : 2 ≤ a.size := g.lo
  have s1 : a.size ≤ 24 := g.hi
  have hbl : (a.B.t.len : Int) = a.size := g.bl
  have hga := h.B.ga (by omega)
  have fa : x.a < a.size := f.a_lt g
  have fb : x.b < a.size := f.b_lt g
  have fc : x.c < a.size := f.c_lt g
  have fa0 := f.a0
  have fb0 := f.b0
  have fc0 := f.c0
  have fe0 := f.e0
  obtain ⟨l, xa, xb, xc, xe⟩ := x
  simp only at hl fa fb fc fa0 fb0 fc0 fe0 hg
  subst hl
  obtain ⟨i, rfl⟩ := Int.eq_ofNat_of_zero_le fa0
  obtain ⟨j, rfl⟩ := Int.eq_ofNat_of_zero_le fb0
  obtain ⟨k, rfl⟩ := Int.eq_ofNat_of_zero_le fc0
  obtain ⟨m, rfl⟩ := Int.eq_ofNat_of_zero_le fe0
  obtain ⟨z, hz⟩ := Int.eq_ofNat_of_zero_le (show 0 ≤ a.size - 1 by omega)
  have hI := frame_in0 h (.cells #[.int .i64 a.size, .slice (some ⟨a.B.gb, a.B.go, none⟩) a.B.t.len a.B.cap, a.E.val] 38) (.cells #[.int .i64 3, .int .i64 i, .int .i64 j, .int .i64 k, .int .i64 m] 59)
  have hav : a.val = .agg #[.int .i64 a.size, .slice (some ⟨a.B.gb, a.B.go, none⟩) a.B.t.len a.B.cap, a.E.val] := by simp only [AlgM.val, Mat.val, hga]
  obtain ⟨q1, uq1, Eq1, lq1, cq1, rq1, vq1⟩ := best_at g hI i j (by omega) (by omega)
  have HG := hide (show ((q1 : Int) == (i : Int)) = true by rw [← Eq1]; exact hg)
  have Hfin := hide (show a.alg.holds ⟨3, i, j, k, m⟩ = true by simp [Alg.holds, Eq1]; left; simpa [Eq1] using hg)
  rw [hav]
  clear Eq1 hbl f g hI h hav hga
  have hg2 : ((q1 : Int) == (i : Int)) = true := HG.out
  clear hg HG
  simp only [Brk.val]
  go_enter Try.func198, Try.ntmps198
  go_wp2_with fail
  go_quiet (fail)
  go_wp2_with fail
  go_ret
  exact ⟨by rw [Hfin.out]; rfl, frame_below w _ _ _⟩

set_option maxRecDepth 100000 in
set_option maxHeartbeats 2000000 in
theorem refHolds_3f (a : AlgM) (g : a.alg.Good) (x : Brk) (f : a.alg.Fits x) (w : World) (h : a.In w.heap.size w) (hl : x.law = 3) (hg : (a.alg.B.get x.a x.b == x.a) = false) :
    Calls Try.prog 198 #[a.val, x.val] w fun e w' => e = .returned (.bool (a.alg.holds x)) ∧ Below w.heap.size w w' := by
  have s0 : 2 ≤ a.size := g.lo
  have s1 : a.size ≤ 24 := g.hi
  have hbl : (a.B.t.len : Int) = a.size := g.bl
  have hga := h.B.ga (by omega)
  have fa : x.a < a.size := f.a_lt g
  have fb : x.b < a.size := f.b_lt g
  have fc : x.c < a.size := f.c_lt g
  have fa0 := f.a0
  have fb0 := f.b0
  have fc0 := f.c0
  have fe0 := f.e0
  obtain ⟨l, xa, xb, xc, xe⟩ := x
  simp only at hl fa fb fc fa0 fb0 fc0 fe0 hg
  subst hl
  obtain ⟨i, rfl⟩ := Int.eq_ofNat_of_zero_le fa0
  obtain ⟨j, rfl⟩ := Int.eq_ofNat_of_zero_le fb0
  obtain ⟨k, rfl⟩ := Int.eq_ofNat_of_zero_le fc0
  obtain ⟨m, rfl⟩ := Int.eq_ofNat_of_zero_le fe0
  obtain ⟨z, hz⟩ := Int.eq_ofNat_of_zero_le (show 0 ≤ a.size - 1 by omega)
  have hI := frame_in0 h (.cells #[.int .i64 a.size, .slice (some ⟨a.B.gb, a.B.go, none⟩) a.B.t.len a.B.cap, a.E.val] 38) (.cells #[.int .i64 3, .int .i64 i, .int .i64 j, .int .i64 k, .int .i64 m] 59)
  have hav : a.val = .agg #[.int .i64 a.size, .slice (some ⟨a.B.gb, a.B.go, none⟩) a.B.t.len a.B.cap, a.E.val] := by simp only [AlgM.val, Mat.val, hga]
  obtain ⟨q1, uq1, Eq1, lq1, cq1, rq1, vq1⟩ := best_at g hI i j (by omega) (by omega)
  have HG := hide (show ((q1 : Int) == (i : Int)) = false by rw [← Eq1]; exact hg)
  have Hfin := hide (show a.alg.holds ⟨3, i, j, k, m⟩ = ((q1 : Int) == (j : Int)) by simp only [Alg.holds]; rw [Eq1, HG.out]; simp)
  rw [hav]
  clear Eq1 hbl f g hI h hav hga
  have hg2 : ((q1 : Int) == (i : Int)) = false := HG.out
  clear hg HG
  simp only [Brk.val]
  go_enter Try.func198, Try.ntmps198
  go_wp2_with fail
  go_quiet (fail)
  go_wp2_with fail
  go_ret
  exact ⟨by rw [Hfin.out]; rfl, frame_below w _ _ _⟩

end Go.Proofs.Ytjhkadffaephmab

/-
  signpostref.HoldsOf at the laws 4 to 7.
-/
namespace Go.Proofs.Ytjhkadffaephmab
open Go.RowKit

set_option maxRecDepth 100000 in
set_option maxHeartbeats 2000000 in
theorem refHolds_4 (a : AlgM) (g : a.alg.Good) (x : Brk) (f : a.alg.Fits x) (w : World) (h : a.In w.heap.size w) (hl : x.law = 4) :
    Calls Try.prog 198 #[a.val, x.val] w fun e w' => e = .returned (.bool (a.alg.holds x)) ∧ Below w.heap.size w w' := by
  have s0 : 2 ≤ a.size := g.lo
  have s1 : a.size ≤ 24 := g.hi
  have hbl : (a.B.t.len : Int) = a.size := g.bl
  have hga := h.B.ga (by omega)
  have fa : x.a < a.size := f.a_lt g
  have fb : x.b < a.size := f.b_lt g
  have fc : x.c < a.size := f.c_lt g
  have fa0 := f.a0
  have fb0 := f.b0
  have fc0 := f.c0
  have fe0 := f.e0
  obtain ⟨l, xa, xb, xc, xe⟩ := x
  simp only at hl fa fb fc fa0 fb0 fc0 fe0
  subst hl
  obtain ⟨i, rfl⟩ := Int.eq_ofNat_of_zero_le fa0
  obtain ⟨j, rfl⟩ := Int.eq_ofNat_of_zero_le fb0
  obtain ⟨k, rfl⟩ := Int.eq_ofNat_of_zero_le fc0
  obtain ⟨m, rfl⟩ := Int.eq_ofNat_of_zero_le fe0
  obtain ⟨z, hz⟩ := Int.eq_ofNat_of_zero_le (show 0 ≤ a.size - 1 by omega)
  have hI := frame_in0 h (.cells #[.int .i64 a.size, .slice (some ⟨a.B.gb, a.B.go, none⟩) a.B.t.len a.B.cap, a.E.val] 38) (.cells #[.int .i64 4, .int .i64 i, .int .i64 j, .int .i64 k, .int .i64 m] 59)
  have hav : a.val = .agg #[.int .i64 a.size, .slice (some ⟨a.B.gb, a.B.go, none⟩) a.B.t.len a.B.cap, a.E.val] := by simp only [AlgM.val, Mat.val, hga]
  obtain ⟨q1, uq1, Eq1, lq1, cq1, rq1, vq1⟩ := best_at g hI i j (by omega) (by omega)
  obtain ⟨q2, uq2, Eq2, lq2, cq2, rq2, vq2⟩ := best_at g hI 0 i (by omega) (by omega)
  simp only [Int.natCast_zero, Nat.add_zero] at rq2 lq2 Eq2
  have Hfin := hide (show a.alg.holds ⟨4, i, j, k, m⟩ = ((q2 : Int) == 0) by simp [Alg.holds, Eq2])
  rw [hav]
  clear Eq1 Eq2 hbl f g hI h hav hga
  simp only [Brk.val]
  go_enter Try.func198, Try.ntmps198
  go_wp2_with fail
  go_quiet (fail)
  go_wp2_with fail
  go_quiet (fail)
  go_wp2
  go_ret
  exact ⟨by rw [Hfin.out]; rfl, below_drewN (frame_below w _ _ _) _⟩

set_option maxRecDepth 100000 in
set_option maxHeartbeats 2000000 in
theorem refHolds_5 (a : AlgM) (g : a.alg.Good) (x : Brk) (f : a.alg.Fits x) (w : World) (h : a.In w.heap.size w) (hl : x.law = 5) :
    Calls Try.prog 198 #[a.val, x.val] w fun e w' => e = .returned (.bool (a.alg.holds x)) ∧ Below w.heap.size w w' := by
  have s0 : 2 ≤ a.size := g.lo
  have s1 : a.size ≤ 24 := g.hi
  have hbl : (a.B.t.len : Int) = a.size := g.bl
  have hga := h.B.ga (by omega)
  have fa : x.a < a.size := f.a_lt g
  have fb : x.b < a.size := f.b_lt g
  have fc : x.c < a.size := f.c_lt g
  have fa0 := f.a0
  have fb0 := f.b0
  have fc0 := f.c0
  have fe0 := f.e0
  obtain ⟨l, xa, xb, xc, xe⟩ := x
  simp only at hl fa fb fc fa0 fb0 fc0 fe0
  subst hl
  obtain ⟨i, rfl⟩ := Int.eq_ofNat_of_zero_le fa0
  obtain ⟨j, rfl⟩ := Int.eq_ofNat_of_zero_le fb0
  obtain ⟨k, rfl⟩ := Int.eq_ofNat_of_zero_le fc0
  obtain ⟨m, rfl⟩ := Int.eq_ofNat_of_zero_le fe0
  obtain ⟨z, hz⟩ := Int.eq_ofNat_of_zero_le (show 0 ≤ a.size - 1 by omega)
  have hI := frame_in0 h (.cells #[.int .i64 a.size, .slice (some ⟨a.B.gb, a.B.go, none⟩) a.B.t.len a.B.cap, a.E.val] 38) (.cells #[.int .i64 5, .int .i64 i, .int .i64 j, .int .i64 k, .int .i64 m] 59)
  have hav : a.val = .agg #[.int .i64 a.size, .slice (some ⟨a.B.gb, a.B.go, none⟩) a.B.t.len a.B.cap, a.E.val] := by simp only [AlgM.val, Mat.val, hga]
  obtain ⟨q1, uq1, Eq1, lq1, cq1, rq1, vq1⟩ := best_at g hI i j (by omega) (by omega)
  obtain ⟨q2, uq2, Eq2, lq2, cq2, rq2, vq2⟩ := best_at g hI z i (by omega) (by omega)
  have Hfin := hide (show a.alg.holds ⟨5, i, j, k, m⟩ = ((q2 : Int) == (i : Int)) by simp only [Alg.holds]; rw [show a.alg.size - 1 = (z : Int) from hz, Eq2]; simp)
  rw [hav]
  clear Eq1 Eq2 hbl f g hI h hav hga
  simp only [Brk.val]
  go_enter Try.func198, Try.ntmps198
  go_wp2_with fail
  go_quiet (fail)
  go_wp2_with fail
  go_quiet (fail)
  go_wp2
  go_ret
  exact ⟨by rw [Hfin.out]; rfl, below_drewN (frame_below w _ _ _) _⟩

set_option maxRecDepth 100000 in
set_option maxHeartbeats 2000000 in
theorem refHolds_6 (a : AlgM) (g : a.alg.Good) (x : Brk) (f : a.alg.Fits x) (w : World) (h : a.In w.heap.size w) (hl : x.law = 6) :
    Calls Try.prog 198 #[a.val, x.val] w fun e w' => e = .returned (.bool (a.alg.holds x)) ∧ Below w.heap.size w w' := by
  have s0 : 2 ≤ a.size := g.lo
  have s1 : a.size ≤ 24 := g.hi
  have hbl : (a.B.t.len : Int) = a.size := g.bl
  have hga := h.B.ga (by omega)
  have fa : x.a < a.size := f.a_lt g
  have fb : x.b < a.size := f.b_lt g
  have fc : x.c < a.size := f.c_lt g
  have fa0 := f.a0
  have fb0 := f.b0
  have fc0 := f.c0
  have fe0 := f.e0
  have fe : x.e < a.E.t.len := f.e_lt (by omega)
  have hge := h.E.ga (by omega)
  obtain ⟨l, xa, xb, xc, xe⟩ := x
  simp only at hl fa fb fc fa0 fb0 fc0 fe0 fe
  subst hl
  obtain ⟨i, rfl⟩ := Int.eq_ofNat_of_zero_le fa0
  obtain ⟨j, rfl⟩ := Int.eq_ofNat_of_zero_le fb0
  obtain ⟨k, rfl⟩ := Int.eq_ofNat_of_zero_le fc0
  obtain ⟨m, rfl⟩ := Int.eq_ofNat_of_zero_le fe0
  obtain ⟨z, hz⟩ := Int.eq_ofNat_of_zero_le (show 0 ≤ a.size - 1 by omega)
  have hI := frame_in0 h (.cells #[.int .i64 a.size, .slice (some ⟨a.B.gb, a.B.go, none⟩) a.B.t.len a.B.cap, .slice (some ⟨a.E.gb, a.E.go, none⟩) a.E.t.len a.E.cap] 38) (.cells #[.int .i64 6, .int .i64 i, .int .i64 j, .int .i64 k, .int .i64 m] 59)
  have hav : a.val = .agg #[.int .i64 a.size, .slice (some ⟨a.B.gb, a.B.go, none⟩) a.B.t.len a.B.cap, .slice (some ⟨a.E.gb, a.E.go, none⟩) a.E.t.len a.E.cap] := by simp only [AlgM.val, Mat.val, hga, hge]
  obtain ⟨q1, uq1, Eq1, lq1, cq1, rq1, vq1⟩ := best_at g hI i j (by omega) (by omega)
  obtain ⟨q2, uq2, Eq2, cq2, rq2, vq2⟩ := edge_at g hI m z (by omega) (by omega)
  have Hfin := hide (show a.alg.holds ⟨6, i, j, k, m⟩ = ((q2 : Int) == (z : Int)) by simp only [Alg.holds]; rw [show a.alg.size - 1 = (z : Int) from hz, Eq2]; simp)
  rw [hav]
  clear Eq1 Eq2 hbl f g hI h hav hga hge
  simp only [Brk.val]
  go_enter Try.func198, Try.ntmps198
  go_wp2_with fail
  go_quiet (fail)
  go_wp2_with fail
  go_ret
  exact ⟨by rw [Hfin.out]; rfl, frame_below w _ _ _⟩

set_option maxRecDepth 100000 in
set_option maxHeartbeats 2000000 in
theorem refHolds_7 (a : AlgM) (g : a.alg.Good) (x : Brk) (f : a.alg.Fits x) (w : World) (h : a.In w.heap.size w) (hl : x.law = 7) :
    Calls Try.prog 198 #[a.val, x.val] w fun e w' => e = .returned (.bool (a.alg.holds x)) ∧ Below w.heap.size w w' := by
  have s0 : 2 ≤ a.size := g.lo
  have s1 : a.size ≤ 24 := g.hi
  have hbl : (a.B.t.len : Int) = a.size := g.bl
  have hga := h.B.ga (by omega)
  have fa : x.a < a.size := f.a_lt g
  have fb : x.b < a.size := f.b_lt g
  have fc : x.c < a.size := f.c_lt g
  have fa0 := f.a0
  have fb0 := f.b0
  have fc0 := f.c0
  have fe0 := f.e0
  have fe : x.e < a.E.t.len := f.e_lt (by omega)
  have hge := h.E.ga (by omega)
  obtain ⟨l, xa, xb, xc, xe⟩ := x
  simp only at hl fa fb fc fa0 fb0 fc0 fe0 fe
  subst hl
  obtain ⟨i, rfl⟩ := Int.eq_ofNat_of_zero_le fa0
  obtain ⟨j, rfl⟩ := Int.eq_ofNat_of_zero_le fb0
  obtain ⟨k, rfl⟩ := Int.eq_ofNat_of_zero_le fc0
  obtain ⟨m, rfl⟩ := Int.eq_ofNat_of_zero_le fe0
  obtain ⟨z, hz⟩ := Int.eq_ofNat_of_zero_le (show 0 ≤ a.size - 1 by omega)
  have hI := frame_in0 h (.cells #[.int .i64 a.size, .slice (some ⟨a.B.gb, a.B.go, none⟩) a.B.t.len a.B.cap, .slice (some ⟨a.E.gb, a.E.go, none⟩) a.E.t.len a.E.cap] 38) (.cells #[.int .i64 7, .int .i64 i, .int .i64 j, .int .i64 k, .int .i64 m] 59)
  have hav : a.val = .agg #[.int .i64 a.size, .slice (some ⟨a.B.gb, a.B.go, none⟩) a.B.t.len a.B.cap, .slice (some ⟨a.E.gb, a.E.go, none⟩) a.E.t.len a.E.cap] := by simp only [AlgM.val, Mat.val, hga, hge]
  obtain ⟨q1, uq1, Eq1, lq1, cq1, rq1, vq1⟩ := best_at g hI i j (by omega) (by omega)
  obtain ⟨q2, uq2, Eq2, cq2, rq2, vq2⟩ := edge_at g hI m i (by omega) (by omega)
  obtain ⟨q3, uq3, Eq3, lq3, cq3, rq3, vq3⟩ := best_at g hI i q2 (by omega) (by omega)
  have Hfin := hide (show a.alg.holds ⟨7, i, j, k, m⟩ = ((q3 : Int) == (i : Int)) by simp [Alg.holds, Eq2, Eq3])
  rw [hav]
  clear Eq1 Eq2 Eq3 hbl f g hI h hav hga hge
  simp only [Brk.val]
  go_enter Try.func198, Try.ntmps198
  go_wp2_with fail
  go_quiet (fail)
  go_wp2_with fail
  go_quiet (fail)
  go_wp2
  go_ret
  exact ⟨by rw [Hfin.out]; rfl, below_drewN (frame_below w _ _ _) _⟩

end Go.Proofs.Ytjhkadffaephmab
