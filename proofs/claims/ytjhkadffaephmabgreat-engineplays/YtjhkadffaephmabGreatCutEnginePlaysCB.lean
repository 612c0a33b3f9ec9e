/-
  Our own texts, bundled: a claim holds few files.
-/
import Derived.Test.YtjhkadffaephmabGreatCutEnginePlaysBE
import Derived.Test.YtjhkadffaephmabGreatCutEnginePlaysAD
import Derived.Test.YtjhkadffaephmabGreatCutEnginePlaysAJ
import Derived.Test.YtjhkadffaephmabGreatCutEnginePlaysAF
import Derived.Test.YtjhkadffaephmabGreatCutEnginePlaysCA
import Derived.Test.YtjhkadffaephmabGreatCutEnginePlaysBJ
import Derived.Test.YtjhkadffaephmabGreatCutEnginePlaysBI
/-
 signpostref.SameEngine, of two that are the same.
-/
namespace Go.Proofs.YtjhkadffaephmabGreat
set_option maxRecDepth 100000
open Go.RowKit

/-- Two engines are the same, number by number. -/
structure EngM.Same (x z : EngM) : Prop where
 gn : x.rs.gn = z.rs.gn
 ints : ∀ i, i < x.rs.gn → sameInts (x.rs.r i).rl (z.rs.r i).rl (x.rs.r i).R (z.rs.r i).R = true
 told : ∀ i, i < x.rs.gn → (x.rs.r i).T.t.same (z.rs.r i).T.t = true
 bn : x.bag.bn = z.bag.bn
 mail : ∀ i, i < x.bag.bn → x.bag.M i = z.bag.M i

structure SEG (x z : EngM) (w W : World) : Prop where
 below : Below w.heap.size w W
 bx : Blk W w.heap.size x.cells 31
 bz : Blk W (w.heap.size + 1) z.cells 31
theorem SEG.keep {x z : EngM} {w W W' : World} (h : SEG x z w W) (hb : Below W.heap.size W W') : SEG x z w W' := ⟨h.below.trans (hb.mono h.below.size), h.bx.below hb h.bx.lt, h.bz.below hb h.bz.lt⟩

set_option maxHeartbeats 4000000 in
theorem sameEngine_yes (x z : EngM) (w : World) (hx : x.In w.heap.size w) (hz : z.In w.heap.size w) (hs : x.Same z) :
  Calls Tryz.prog 39 #[x.val, z.val] w fun r w' => r = .returned (.bool true) ∧ Below w.heap.size w w' := by
 obtain ⟨W1, hW1⟩ : ∃ W1, W1 = (w.alloc (.cells x.cells 31)).alloc (.cells z.cells 31) := ⟨_, rfl⟩
 have HG1 : Hid (SEG x z w W1) := hide ⟨by rw [hW1]; exact ((Below.refl _ w).alloc (Nat.le_refl _) _).alloc (by simp) _, by rw [hW1]; exact (Blk.new w _ _).alloc _, by rw [hW1]; exact Blk.new' (by simp)⟩
 obtain ⟨N, hN⟩ : ∃ N, N = x.rs.gn := ⟨_, rfl⟩
 obtain ⟨B, hB⟩ : ∃ B, B = x.bag.bn := ⟨_, rfl⟩
 have hNl := hx.rs.len
 have hBl := hx.bag.len
 unfold maxLen at hNl hBl
 rw [← hN] at hNl
 rw [← hB] at hBl
 have hxc : x.cells = #[.slice x.rs.ga N x.rs.gc, .slice x.bag.ba B x.bag.bc] := by rw [hN, hB]; rfl
 have hzc : z.cells = #[.slice z.rs.ga N z.rs.gc, .slice z.bag.ba B z.bag.bc] := by rw [hN, hB, hs.gn, hs.bn]; rfl
 have Hx := hide hx
 have Hz := hide hz
 have Hs := hide hs
 have HNx := hide hN
 have HBx := hide hB
 have HNz : Hid (N = z.rs.gn) := hide (hN.trans hs.gn)
 have HBz : Hid (B = z.bag.bn) := hide (hB.trans hs.bn)
 have Hxc := hide hxc
 have Hzc := hide hzc
 simp only [EngM.val, hxc, hzc] at hW1 ⊢
 have HW1 := hide hW1
 clear hx hz hs hN hB hxc hzc hW1
 go_enter Tryz.func39, Tryz.ntmps39
 go_wp2_with fail
 rw [← HW1.out]
 go_loopw [5] (fun q wr => ∃ k : Nat, k ≤ N ∧ q = .int .i64 k ∧ Hid (SEG x z w wr)) (fun q _ => N - (intOf q).toNat)
 case atStart => exact ⟨0, Nat.zero_le _, rfl, HG1⟩
 case round =>
  obtain ⟨k, hk, rfl, HG⟩ := hrel
  have x0 := HG.out.bx.cell 0
  simp [Hxc.out] at x0
  by_cases hlt : k < N
  ·have hki : (k : Int) < (N : Int) := by omega
   have Hxa : Hid (x.rs.ga = some ⟨x.rs.gb, x.rs.go, none⟩) := hide (Hx.out.rs.ga (by rw [← HNx.out]; omega))
   have Hza : Hid (z.rs.ga = some ⟨z.rs.gb, z.rs.go, none⟩) := hide (Hz.out.rs.ga (by rw [← HNz.out]; omega))
   have Hxk : Hid (k < x.rs.gn) := hide (by rw [← HNx.out]; exact hlt)
   have Hzk : Hid (k < z.rs.gn) := hide (by rw [← HNz.out]; exact hlt)
   have HSi := hide (fun W (hb : Below w.heap.size w W) => sameInts_any (x.rs.r k).ra (z.rs.r k).ra (x.rs.r k).rl (z.rs.r k).rl (x.rs.r k).rc (z.rs.r k).rc (x.rs.r k).rb (x.rs.r k).ro (z.rs.r k).rb (z.rs.r k).ro (x.rs.r k).R (z.rs.r k).R W ((Hx.out.below hb (Nat.le_refl _)).rs.r k Hxk.out).ints ((Hz.out.below hb (Nat.le_refl _)).rs.r k Hzk.out).ints)
   have HSs := hide (fun W (hb : Below w.heap.size w W) => sameState_any (x.rs.r k).T (z.rs.r k).T w.heap.size W ((Hx.out.below hb (Nat.le_refl _)).rs.r k Hxk.out).T ((Hz.out.below hb (Nat.le_refl _)).rs.r k Hzk.out).T)
   rw [Hs.out.ints k Hxk.out] at HSi
   rw [Hs.out.told k Hxk.out] at HSs
   simp only [Mat.val] at HSs
   go_wp2_with fail
   refine wp_region_only (fun W => SEG x z w W) (valsE [.pointer (some ⟨w.heap.size, 0, none⟩), .slice (some ⟨x.rs.gb, x.rs.go, none⟩) N x.rs.gc, .int .i64 (k : Int), .pointer (some ⟨x.rs.gb, x.rs.go + k * 2, none⟩), .pointer (some ⟨x.rs.gb, x.rs.go + k * 2, none⟩), .slice (x.rs.r k).ra (x.rs.r k).rl (x.rs.r k).rc, .pointer (some ⟨w.heap.size + 1, 0, none⟩), .slice (some ⟨z.rs.gb, z.rs.go, none⟩) N z.rs.gc, .int .i64 (k : Int), .pointer (some ⟨z.rs.gb, z.rs.go + k * 2, none⟩), .pointer (some ⟨z.rs.gb, z.rs.go + k * 2, none⟩), .slice (z.rs.r k).ra (z.rs.r k).rl (z.rs.r k).rc, .bool true, .bool false, .bool false, .pointer (some ⟨w.heap.size, 0, none⟩), .slice (some ⟨x.rs.gb, x.rs.go, none⟩) N x.rs.gc, .int .i64 (k : Int), .pointer (some ⟨x.rs.gb, x.rs.go + k * 2, none⟩), .pointer (some ⟨x.rs.gb, x.rs.go + k * 2 + 1, none⟩), .slice (x.rs.r k).T.ga (x.rs.r k).T.t.len (x.rs.r k).T.cap, .pointer (some ⟨w.heap.size + 1, 0, none⟩), .slice (some ⟨z.rs.gb, z.rs.go, none⟩) N z.rs.gc, .int .i64 (k : Int), .pointer (some ⟨z.rs.gb, z.rs.go + k * 2, none⟩), .pointer (some ⟨z.rs.gb, z.rs.go + k * 2 + 1, none⟩), .slice (z.rs.r k).T.ga (z.rs.r k).T.t.len (z.rs.r k).T.cap, .bool true, .bool false, .bool false]) (by kernel_rfl) (by kernel_rfl) (by kernel_rfl) (HG.out.keep ⟨rfl, rfl, rfl, Nat.le_refl _, fun _ _ => rfl⟩) ⟨?_, ?_, ?_, ?_, ?_, ?_, ?_, ?_, ?_, ?_, ?_, ?_, ?_, ?_, ?_, ?_, ?_, ?_, ?_, ?_, ?_, ?_, ?_, ?_, ?_, ?_, ?_, ?_, ?_, ?_, trivial⟩ ?_
   rotate_right
   ·intro t W hG hE
    have e29 := valsE_get (hE 29 (by decide)) rfl
    have HG' := hide hG
    clear hE hG
    simp only [fill, Act.put, List.setIfInBounds_toArray, List.set_cons_zero, List.set_cons_succ, e29]
    clear e29
    go_wp2
    go_roundw
    case rel =>
     first
     | exact ⟨k + 1, by omega, by go_num, HG'⟩
     | ((repeat apply Exists.intro); refine ⟨?_, rfl⟩; exact ⟨k + 1, by omega, by go_num, HG'⟩)
    case measure => simp [intOf]; omega
   all_goals intro t W hG hp K hK
   all_goals simp only [fill, Act.put, List.setIfInBounds_toArray, List.set_cons_zero, List.set_cons_succ] at hK ⊢
   ·rw [if_pos (by rfl)]
    go_simp
    exact hK _ _ hG rfl (fun _ _ _ h => h)
   ·have e0 := valsE_get (hp 0 (by decide)) rfl
    have qx := hG.bx.cell 0
    simp [Hxc.out] at qx
    rw [Hxa.out] at qx
    simp only [e0] at hK ⊢
    rw [if_pos (by rfl)]
    go_simp
    exact hK _ _ hG rfl (fun _ _ _ h => h)
   ·rw [if_pos (by rfl)]
    go_simp
    exact hK _ _ hG rfl (fun _ _ _ h => h)
   ·have e1 := valsE_get (hp 1 (by decide)) rfl
    have e2 := valsE_get (hp 2 (by decide)) rfl
    simp only [e1, e2] at hK ⊢
    rw [if_pos (by rfl)]
    go_simp
    exact hK _ _ hG rfl (fun _ _ _ h => h)
   ·have e3 := valsE_get (hp 3 (by decide)) rfl
    simp only [e3] at hK ⊢
    rw [if_pos (by rfl)]
    go_simp
    exact hK _ _ hG rfl (fun _ _ _ h => h)
   ·have e4 := valsE_get (hp 4 (by decide)) rfl
    have cx := (Hx.out.below hG.below (Nat.le_refl _)).rs.c0 k Hxk.out
    simp only [e4] at hK ⊢
    rw [if_pos (by rfl)]
    go_simp
    exact hK _ _ hG rfl (fun _ _ _ h => h)
   ·rw [if_pos (by rfl)]
    go_simp
    exact hK _ _ hG rfl (fun _ _ _ h => h)
   ·have e6 := valsE_get (hp 6 (by decide)) rfl
    have qz := hG.bz.cell 0
    simp [Hzc.out] at qz
    rw [Hza.out] at qz
    simp only [e6] at hK ⊢
    rw [if_pos (by rfl)]
    go_simp
    exact hK _ _ hG rfl (fun _ _ _ h => h)
   ·rw [if_pos (by rfl)]
    go_simp
    exact hK _ _ hG rfl (fun _ _ _ h => h)
   ·have e7 := valsE_get (hp 7 (by decide)) rfl
    have e8 := valsE_get (hp 8 (by decide)) rfl
    simp only [e7, e8] at hK ⊢
    rw [if_pos (by rfl)]
    go_simp
    exact hK _ _ hG rfl (fun _ _ _ h => h)
   ·have e9 := valsE_get (hp 9 (by decide)) rfl
    simp only [e9] at hK ⊢
    rw [if_pos (by rfl)]
    go_simp
    exact hK _ _ hG rfl (fun _ _ _ h => h)
   ·have e10 := valsE_get (hp 10 (by decide)) rfl
    have cz := (Hz.out.below hG.below (Nat.le_refl _)).rs.c0 k Hzk.out
    simp only [e10] at hK ⊢
    rw [if_pos (by rfl)]
    go_simp
    exact hK _ _ hG rfl (fun _ _ _ h => h)
   ·have e5 := valsE_get (hp 5 (by decide)) rfl
    have e11 := valsE_get (hp 11 (by decide)) rfl
    simp only [e5, e11] at hK ⊢
    rw [if_pos (by rfl)]
    go_simp
    go_at_call 38
    refine (HSi.out W hG.below).mono ?_
    rintro r W' ⟨rfl, m', rfl⟩
    go_simp
    exact hK _ _ (hG.keep (below_drewN (Below.refl _ _) m')) rfl (fun _ _ _ h => h)
   ·have e12 := valsE_get (hp 12 (by decide)) rfl
    simp only [e12] at hK ⊢
    rw [if_pos (by rfl)]
    go_simp
    exact hK _ _ hG rfl (fun _ _ _ h => h)
   ·have e13 := valsE_get (hp 13 (by decide)) rfl
    simp only [e13] at hK ⊢
    rw [if_pos (by rfl)]
    go_simp
    exact hK _ _ hG rfl (fun _ _ _ h => h)
   ·have e14 := valsE_get (hp 14 (by decide)) rfl
    simp only [e14] at hK ⊢
    rw [if_pos (by rfl)]
    go_simp
    exact hK _ _ hG rfl (fun _ _ _ h => h)
   ·have e14 := valsE_get (hp 14 (by decide)) rfl
    have e15 := valsE_get (hp 15 (by decide)) rfl
    have qx := hG.bx.cell 0
    simp [Hxc.out] at qx
    rw [Hxa.out] at qx
    simp only [e14, e15] at hK ⊢
    rw [if_pos (by rfl)]
    go_simp
    exact hK _ _ hG rfl (fun _ _ _ h => h)
   ·have e14 := valsE_get (hp 14 (by decide)) rfl
    simp only [e14] at hK ⊢
    rw [if_pos (by rfl)]
    go_simp
    exact hK _ _ hG rfl (fun _ _ _ h => h)
   ·have e14 := valsE_get (hp 14 (by decide)) rfl
    have e16 := valsE_get (hp 16 (by decide)) rfl
    have e17 := valsE_get (hp 17 (by decide)) rfl
    simp only [e14, e16, e17] at hK ⊢
    rw [if_pos (by rfl)]
    go_simp
    exact hK _ _ hG rfl (fun _ _ _ h => h)
   ·have e14 := valsE_get (hp 14 (by decide)) rfl
    have e18 := valsE_get (hp 18 (by decide)) rfl
    simp only [e14, e18] at hK ⊢
    rw [if_pos (by rfl)]
    go_simp
    exact hK _ _ hG rfl (fun _ _ _ h => h)
   ·have e14 := valsE_get (hp 14 (by decide)) rfl
    have e19 := valsE_get (hp 19 (by decide)) rfl
    have cx := (Hx.out.below hG.below (Nat.le_refl _)).rs.c1 k Hxk.out
    simp only [e14, e19] at hK ⊢
    rw [if_pos (by rfl)]
    go_simp
    exact hK _ _ hG rfl (fun _ _ _ h => h)
   ·have e14 := valsE_get (hp 14 (by decide)) rfl
    simp only [e14] at hK ⊢
    rw [if_pos (by rfl)]
    go_simp
    exact hK _ _ hG rfl (fun _ _ _ h => h)
   ·have e14 := valsE_get (hp 14 (by decide)) rfl
    have e21 := valsE_get (hp 21 (by decide)) rfl
    have qz := hG.bz.cell 0
    simp [Hzc.out] at qz
    rw [Hza.out] at qz
    simp only [e14, e21] at hK ⊢
    rw [if_pos (by rfl)]
    go_simp
    exact hK _ _ hG rfl (fun _ _ _ h => h)
   ·have e14 := valsE_get (hp 14 (by decide)) rfl
    simp only [e14] at hK ⊢
    rw [if_pos (by rfl)]
    go_simp
    exact hK _ _ hG rfl (fun _ _ _ h => h)
   ·have e14 := valsE_get (hp 14 (by decide)) rfl
    have e22 := valsE_get (hp 22 (by decide)) rfl
    have e23 := valsE_get (hp 23 (by decide)) rfl
    simp only [e14, e22, e23] at hK ⊢
    rw [if_pos (by rfl)]
    go_simp
    exact hK _ _ hG rfl (fun _ _ _ h => h)
   ·have e14 := valsE_get (hp 14 (by decide)) rfl
    have e24 := valsE_get (hp 24 (by decide)) rfl
    simp only [e14, e24] at hK ⊢
    rw [if_pos (by rfl)]
    go_simp
    exact hK _ _ hG rfl (fun _ _ _ h => h)
   ·have e14 := valsE_get (hp 14 (by decide)) rfl
    have e25 := valsE_get (hp 25 (by decide)) rfl
    have cz := (Hz.out.below hG.below (Nat.le_refl _)).rs.c1 k Hzk.out
    simp only [e14, e25] at hK ⊢
    rw [if_pos (by rfl)]
    go_simp
    exact hK _ _ hG rfl (fun _ _ _ h => h)
   ·have e14 := valsE_get (hp 14 (by decide)) rfl
    have e20 := valsE_get (hp 20 (by decide)) rfl
    have e26 := valsE_get (hp 26 (by decide)) rfl
    simp only [e14, e20, e26] at hK ⊢
    rw [if_pos (by rfl)]
    go_simp
    go_at_call 68
    refine (HSs.out W hG.below).mono ?_
    rintro r W' ⟨rfl, m', rfl⟩
    go_simp
    exact hK _ _ (hG.keep (below_drewN (Below.refl _ _) m')) rfl (fun _ _ _ h => h)
   ·have e14 := valsE_get (hp 14 (by decide)) rfl
    have e27 := valsE_get (hp 27 (by decide)) rfl
    simp only [e14, e27] at hK ⊢
    rw [if_pos (by rfl)]
    go_simp
    exact hK _ _ hG rfl (fun _ _ _ h => h)
   ·have e14 := valsE_get (hp 14 (by decide)) rfl
    have e28 := valsE_get (hp 28 (by decide)) rfl
    simp only [e14, e28] at hK ⊢
    rw [if_pos (by rfl)]
    go_simp
    exact hK _ _ hG rfl (fun _ _ _ h => h)
  ·have hkn : k = N := by omega
   subst hkn
   clear hk hlt
   go_wp2_with fail
   go_loopw [6] (fun q wr => ∃ j : Nat, j ≤ B ∧ q = .int .i64 j ∧ Hid (SEG x z w wr)) (fun q _ => B - (intOf q).toNat)
   case atStart => exact ⟨0, Nat.zero_le _, rfl, HG⟩
   case round =>
    obtain ⟨j, hj, rfl, HG2⟩ := hrel
    have x1 := HG2.out.bx.cell 1
    simp [Hxc.out] at x1
    by_cases hlt : j < B
    ·have hji : (j : Int) < (B : Int) := by omega
     have Hxa : Hid (x.bag.ba = some ⟨x.bag.bb, x.bag.bo, none⟩) := hide (Hx.out.bag.ba (by rw [← HBx.out]; omega))
     have Hza : Hid (z.bag.ba = some ⟨z.bag.bb, z.bag.bo, none⟩) := hide (Hz.out.bag.ba (by rw [← HBz.out]; omega))
     have Hxj : Hid (j < x.bag.bn) := hide (by rw [← HBx.out]; exact hlt)
     have Hzj : Hid (j < z.bag.bn) := hide (by rw [← HBz.out]; exact hlt)
     have Hm : Hid (z.bag.M j = x.bag.M j) := hide (Hs.out.mail j Hxj.out).symm
     go_wp2_with fail
     refine wp_region_only (fun W => SEG x z w W) (valsE [.pointer (some ⟨w.heap.size, 1, none⟩), .slice (some ⟨x.bag.bb, x.bag.bo, none⟩) B x.bag.bc, .int .i64 (j : Int), .pointer (some ⟨x.bag.bb, x.bag.bo + j * 3, none⟩), .agg #[.int .i64 (x.bag.M j).F, .int .i64 (x.bag.M j).T, .string ⟨(x.bag.M j).b.toArray⟩], .pointer (some ⟨w.heap.size + 1, 1, none⟩), .slice (some ⟨z.bag.bb, z.bag.bo, none⟩) B z.bag.bc, .int .i64 (j : Int), .pointer (some ⟨z.bag.bb, z.bag.bo + j * 3, none⟩), .agg #[.int .i64 (x.bag.M j).F, .int .i64 (x.bag.M j).T, .string ⟨(x.bag.M j).b.toArray⟩], .bool false]) (by kernel_rfl) (by kernel_rfl) (by kernel_rfl) (HG2.out.keep ⟨rfl, rfl, rfl, Nat.le_refl _, fun _ _ => rfl⟩) ⟨?_, ?_, ?_, ?_, ?_, ?_, ?_, ?_, ?_, ?_, ?_, trivial⟩ ?_
     rotate_right
     ·intro t W hG hE
      have e10 := valsE_get (hE 10 (by decide)) rfl
      have HG' := hide hG
      clear hE hG
      simp only [fill, Act.put, List.setIfInBounds_toArray, List.set_cons_zero, List.set_cons_succ, e10]
      clear e10
      go_wp2
      go_roundw
      case rel =>
       first
       | exact ⟨j + 1, by omega, by go_num, HG'⟩
       | ((repeat apply Exists.intro); refine ⟨?_, rfl⟩; exact ⟨j + 1, by omega, by go_num, HG'⟩)
      case measure => simp [intOf]; omega
     all_goals intro t W hG hp K hK
     all_goals simp only [fill, Act.put, List.setIfInBounds_toArray, List.set_cons_zero, List.set_cons_succ] at hK ⊢
     ·rw [if_pos (by rfl)]
      go_simp
      exact hK _ _ hG rfl (fun _ _ _ h => h)
     ·have e0 := valsE_get (hp 0 (by decide)) rfl
      have qx := hG.bx.cell 1
      simp [Hxc.out] at qx
      rw [Hxa.out] at qx
      simp only [e0] at hK ⊢
      rw [if_pos (by rfl)]
      go_simp
      exact hK _ _ hG rfl (fun _ _ _ h => h)
     ·rw [if_pos (by rfl)]
      go_simp
      exact hK _ _ hG rfl (fun _ _ _ h => h)
     ·have e1 := valsE_get (hp 1 (by decide)) rfl
      have e2 := valsE_get (hp 2 (by decide)) rfl
      simp only [e1, e2] at hK ⊢
      rw [if_pos (by rfl)]
      go_simp
      exact hK _ _ hG rfl (fun _ _ _ h => h)
     ·have e3 := valsE_get (hp 3 (by decide)) rfl
      have hbx := (Hx.out.below hG.below (Nat.le_refl _)).bag
      have d0 := hbx.c0 j Hxj.out
      have d1 := hbx.c1 j Hxj.out
      have d2 := hbx.c2 j Hxj.out
      clear hbx
      simp only [e3] at hK ⊢
      rw [if_pos (by rfl)]
      go_simp
      exact hK _ _ hG rfl (fun _ _ _ h => h)
     ·rw [if_pos (by rfl)]
      go_simp
      exact hK _ _ hG rfl (fun _ _ _ h => h)
     ·have e5 := valsE_get (hp 5 (by decide)) rfl
      have qz := hG.bz.cell 1
      simp [Hzc.out] at qz
      rw [Hza.out] at qz
      simp only [e5] at hK ⊢
      rw [if_pos (by rfl)]
      go_simp
      exact hK _ _ hG rfl (fun _ _ _ h => h)
     ·rw [if_pos (by rfl)]
      go_simp
      exact hK _ _ hG rfl (fun _ _ _ h => h)
     ·have e6 := valsE_get (hp 6 (by decide)) rfl
      have e7 := valsE_get (hp 7 (by decide)) rfl
      simp only [e6, e7] at hK ⊢
      rw [if_pos (by rfl)]
      go_simp
      exact hK _ _ hG rfl (fun _ _ _ h => h)
     ·have e8 := valsE_get (hp 8 (by decide)) rfl
      have hbz := (Hz.out.below hG.below (Nat.le_refl _)).bag
      have d0 := hbz.c0 j Hzj.out
      have d1 := hbz.c1 j Hzj.out
      have d2 := hbz.c2 j Hzj.out
      rw [Hm.out] at d0 d1 d2
      clear hbz
      simp only [e8] at hK ⊢
      rw [if_pos (by rfl)]
      go_simp
      exact hK _ _ hG rfl (fun _ _ _ h => h)
     ·have e4 := valsE_get (hp 4 (by decide)) rfl
      have e9 := valsE_get (hp 9 (by decide)) rfl
      simp only [e4, e9] at hK ⊢
      rw [if_pos (by rfl)]
      go_simp
      exact hK _ _ hG rfl (fun _ _ _ h => h)
    ·have hjb : j = B := by omega
     subst hjb
     have HF := hide HG2.out.below
     clear hlt hj
     go_wp2
     first
     | exact ⟨rfl, HF.out⟩
     | (go_ret; exact ⟨rfl, HF.out⟩)

end Go.Proofs.YtjhkadffaephmabGreat

/-
  Engines that have the same numbers; mail that was spoilt, step by step.
-/
namespace Go.Proofs.YtjhkadffaephmabGreat
set_option maxRecDepth 100000
open Go.RowKit

theorem EngM.same_rtrs {x z : EngM} {n : Net} {N : Nat} (hx : x.Right n N) (hz : z.Right n N) (hR : x.eng.R = z.eng.R) (ht : x.eng.told = z.eng.told) (hD : x.eng.D = z.eng.D) :
    x.rs.gn = z.rs.gn ∧ (∀ i, i < x.rs.gn → sameInts (x.rs.r i).rl (z.rs.r i).rl (x.rs.r i).R (z.rs.r i).R = true) ∧ (∀ i, i < x.rs.gn → (x.rs.r i).T.t.same (z.rs.r i).T.t = true) := by
  refine ⟨by rw [hx.gn, hz.gn], fun i hi => ?_, fun i hi => ?_⟩
  · rw [hx.gn] at hi
    rw [hx.rl i hi, hz.rl i hi]
    exact sameInts_iff.2 ⟨rfl, fun j _ => congrFun (congrFun hR i) j⟩
  · rw [hx.gn] at hi
    refine Tab.same_iff.2 ⟨by rw [hx.tl i hi, hz.tl i hi], fun q hq => ?_⟩
    rw [hx.tl i hi] at hq
    have hL : (x.rs.r i).T.t.L q = (z.rs.r i).T.t.L q := by rw [hx.ll i hi q hq, hz.ll i hi q hq, ht]
    exact ⟨hL, fun c _ => congrFun (congrFun (congrFun hD i) q) c⟩
theorem EngM.same_of {x z : EngM} {n : Net} {N : Nat} (hx : x.Right n N) (hz : z.Right n N) (he : x.eng = z.eng) : x.Same z := by
  obtain ⟨h1, h2, h3⟩ := EngM.same_rtrs hx hz (by rw [he]) (by rw [he]) (by rw [he])
  have hb : (List.range x.bag.bn).map x.bag.M = (List.range z.bag.bn).map z.bag.M := congrArg Eng.bag he
  have hl : x.bag.bn = z.bag.bn := by have := congrArg List.length hb; simpa using this
  refine ⟨h1, h2, h3, hl, fun i hi => ?_⟩
  have := congrArg (fun l => l[i]?) hb
  simpa [hi, ← hl] using this

/-- No mail. -/
def nilBag : BagM := ⟨none, 0, 0, 0, 0, fun _ => noMail⟩
theorem nilBag_in (N : Nat) (w : World) : nilBag.In N w :=
  ⟨fun h => absurd h (Nat.lt_irrefl _), fun h => absurd h (Nat.lt_irrefl _), fun _ h => absurd h (Nat.not_lt_zero _), fun _ h => absurd h (Nat.not_lt_zero _), fun _ h => absurd h (Nat.not_lt_zero _), Nat.zero_le _, fun _ h => absurd h (Nat.not_lt_zero _)⟩
end Go.Proofs.YtjhkadffaephmabGreat

/-
  A call that answers an engine and an error, and the box that it is put into: what the operations leave.
-/
namespace Go.Proofs.YtjhkadffaephmabGreat
set_option maxRecDepth 100000
open Go.RowKit

theorem wrap_sm {x : Int} (h0 : 0 ≤ x) (h1 : x < 1000) : IntKind.i64.wrap x = x := by
  simp [IntKind.wrap, IntKind.bits, IntKind.signed]; omega

structure BoxM (Φ : EngM → Prop) (m : EngM) (W : World) : Prop where
  mem : m.In W.heap.size W
  apart : m.Apart W
  ok : Φ m
theorem BoxM.keep {Φ : EngM → Prop} {m : EngM} {W W' : World} (h : BoxM Φ m W) (hb : Below W.heap.size W W') : BoxM Φ m W' := ⟨h.mem.grown hb, h.apart.keep h.mem hb, h.ok⟩

/-- An engine in its box. -/
structure InBox (Φ : EngM → Prop) (q : Nat) (m : EngM) (W : World) : Prop where
  blk : Blk W q m.cells 31
  mem : m.In W.heap.size W
  clear : m.Clear q
  ok : Φ m
theorem InBox.keep {Φ : EngM → Prop} {q : Nat} {m : EngM} {W W' : World} (h : InBox Φ q m W) (hb : Below W.heap.size W W') : InBox Φ q m W' := ⟨h.blk.below hb h.blk.lt, h.mem.grown hb, h.clear, h.ok⟩

/-- c: the call; c + 1: its answer moved; c + 2, c + 3: its parts; c + 4: the box; c + 5: the store; b tells whether it was made. -/
def boxE (vs : List Value) (c : Nat) (er : Int) (Φ : EngM → Prop) (lo : Nat) (b : Bool) (k : Nat) (v : Value) (W : World) : Prop :=
  if k = c ∨ k = c + 1 then (∃ u, v = .tuple #[u, .int .i64 er]) ∧ (b = false → ∃ m : EngM, v = .tuple #[m.val, .int .i64 er] ∧ BoxM Φ m W)
  else if k = c + 2 then b = false → ∃ m : EngM, v = m.val ∧ BoxM Φ m W
  else if k = c + 4 then ∃ q, v = .pointer (some ⟨q, 0, none⟩) ∧ lo ≤ q ∧ (b = false → Blk W q #[.slice none 0 0, .slice none 0 0] 31) ∧ (b = true → ∃ m : EngM, InBox Φ q m W)
  else if k = c + 5 then True
  else vs[k]? = some v

section
variable {vs : List Value} {c : Nat} {er : Int} {Φ : EngM → Prop} {lo : Nat} {b : Bool} {k : Nat} {v : Value} {W W' : World}

theorem boxE_c : boxE vs c er Φ lo b c v W ↔ (∃ u, v = .tuple #[u, .int .i64 er]) ∧ (b = false → ∃ m : EngM, v = .tuple #[m.val, .int .i64 er] ∧ BoxM Φ m W) := by
  unfold boxE; rw [if_pos (Or.inl rfl)]
theorem boxE_c1 : boxE vs c er Φ lo b (c + 1) v W ↔ (∃ u, v = .tuple #[u, .int .i64 er]) ∧ (b = false → ∃ m : EngM, v = .tuple #[m.val, .int .i64 er] ∧ BoxM Φ m W) := by
  unfold boxE; rw [if_pos (Or.inr rfl)]
theorem boxE_c2 : boxE vs c er Φ lo b (c + 2) v W ↔ (b = false → ∃ m : EngM, v = m.val ∧ BoxM Φ m W) := by
  unfold boxE; rw [if_neg (by omega), if_pos rfl]
theorem boxE_c4 : boxE vs c er Φ lo b (c + 4) v W ↔ ∃ q, v = .pointer (some ⟨q, 0, none⟩) ∧ lo ≤ q ∧ (b = false → Blk W q #[.slice none 0 0, .slice none 0 0] 31) ∧ (b = true → ∃ m : EngM, InBox Φ q m W) := by
  unfold boxE; rw [if_neg (by omega), if_neg (by omega), if_pos rfl]
theorem boxE_c5 : boxE vs c er Φ lo b (c + 5) v W := by
  unfold boxE; rw [if_neg (by omega), if_neg (by omega), if_neg (by omega), if_pos rfl]; trivial
theorem boxE_get {u : Value} (h : boxE vs c er Φ lo b k v W) (hk : k < c ∨ k = c + 3 ∨ c + 5 < k) (hu : vs[k]? = some u) : v = u := by
  unfold boxE at h
  rw [if_neg (by omega), if_neg (by omega), if_neg (by omega), if_neg (by omega), hu] at h
  exact (Option.some.inj h).symm
theorem boxE_put (hk : k < c ∨ k = c + 3 ∨ c + 5 < k) (hu : vs[k]? = some v) : boxE vs c er Φ lo b k v W := by
  unfold boxE
  rw [if_neg (by omega), if_neg (by omega), if_neg (by omega), if_neg (by omega)]
  exact hu
theorem boxE_keep (hb : Below W.heap.size W W') (h : boxE vs c er Φ lo b k v W) : boxE vs c er Φ lo b k v W' := by
  unfold boxE at h ⊢
  by_cases e1 : k = c ∨ k = c + 1
  · rw [if_pos e1] at h ⊢
    exact ⟨h.1, fun h0 => by obtain ⟨m, h1, h2⟩ := h.2 h0; exact ⟨m, h1, h2.keep hb⟩⟩
  rw [if_neg e1] at h ⊢
  by_cases e2 : k = c + 2
  · rw [if_pos e2] at h ⊢
    exact fun h0 => by obtain ⟨m, h1, h2⟩ := h h0; exact ⟨m, h1, h2.keep hb⟩
  rw [if_neg e2] at h ⊢
  by_cases e3 : k = c + 4
  · rw [if_pos e3] at h ⊢
    obtain ⟨q, h1, h2, h3, h4⟩ := h
    exact ⟨q, h1, h2, fun h0 => (h3 h0).below hb (h3 h0).lt, fun h0 => by obtain ⟨m, h5⟩ := h4 h0; exact ⟨m, h5.keep hb⟩⟩
  rw [if_neg e3] at h ⊢
  by_cases e4 : k = c + 5
  · rw [if_pos e4]; trivial
  rw [if_neg e4] at h ⊢
  exact h
/-- The store. -/
theorem boxE_store {t : Nat → Value} {q : Nat} {m : EngM} (hq : t (c + 4) = .pointer (some ⟨q, 0, none⟩)) (hl : lo ≤ q) (hm : InBox Φ q m W') (j : Nat) (hj : j ≠ c + 5) (h : boxE vs c er Φ lo false j (t j) W) : boxE vs c er Φ lo true j (t j) W' := by
  unfold boxE at h ⊢
  by_cases e1 : j = c ∨ j = c + 1
  · rw [if_pos e1] at h ⊢
    exact ⟨h.1, fun h0 => by cases h0⟩
  rw [if_neg e1] at h ⊢
  by_cases e2 : j = c + 2
  · rw [if_pos e2] at h ⊢
    exact fun h0 => by cases h0
  rw [if_neg e2] at h ⊢
  by_cases e3 : j = c + 4
  · rw [if_pos e3] at h ⊢
    exact ⟨q, by rw [e3, hq], hl, fun h0 => (by cases h0), fun _ => ⟨m, hm⟩⟩
  rw [if_neg e3] at h ⊢
  rw [if_neg hj] at h ⊢
  exact h
theorem BoxM.stored {q : Nat} {m : EngM} (h : BoxM Φ m W) (hq : Blk W q #[.slice none 0 0, .slice none 0 0] 31) :
    InBox Φ q m ((W.setCell ⟨q, 0, none⟩ (.slice m.rs.ga m.rs.gn m.rs.gc)).setCell ⟨q, 1, none⟩ (.slice m.bag.ba m.bag.bn m.bag.bc)) := by
  have hc := h.apart q _ _ _ _ _ _ hq
  exact ⟨hq.set2 _ _, by simpa using (h.mem.set hc 0 _).set hc 1 _, hc, h.ok⟩
end

/-- No engine. -/
def zeroM : EngM := ⟨⟨none, 0, 0, 0, 0, fun _ => ⟨none, 0, 0, 0, 0, fun _ => 0, ⟨none, 0, 0, 0, fun _ => none, fun _ => 0, fun _ => 0, fun _ => 0, ⟨0, fun _ => 0, fun _ _ => 0⟩⟩⟩⟩, nilBag⟩
theorem zeroM_in (N : Nat) (w : World) : zeroM.In N w :=
  ⟨⟨fun h => absurd h (Nat.lt_irrefl _), fun h => absurd h (Nat.lt_irrefl _), fun _ h => absurd h (Nat.not_lt_zero _), fun _ h => absurd h (Nat.not_lt_zero _), fun _ h => absurd h (Nat.not_lt_zero _), Nat.zero_le _⟩, nilBag_in N w⟩
theorem zeroM_clear (q : Nat) : zeroM.Clear q := ⟨fun h => absurd h (Nat.lt_irrefl _), fun _ h => absurd h (Nat.not_lt_zero _), fun h => absurd h (Nat.lt_irrefl _)⟩

end Go.Proofs.YtjhkadffaephmabGreat
