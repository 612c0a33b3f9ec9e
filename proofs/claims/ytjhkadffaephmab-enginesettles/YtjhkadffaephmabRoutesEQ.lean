/-
  signpostref.RoutesOf.
-/
import Derived.Test.YtjhkadffaephmabBundleFH
import Derived.Test.YtjhkadffaephmabBundleAJ
import Derived.Test.YtjhkadffaephmabBundleBG
namespace Go.Proofs.Ytjhkadffaephmab
set_option maxRecDepth 100000
open Go.RowKit

/-- The routes of the first so many routers, as slices. -/
def rtsV (x : EngM) (k : Nat) : List Value := (List.range k).map fun i => Value.slice (x.rs.r i).ra (x.rs.r i).rl (x.rs.r i).rc
theorem rtsV_len (x : EngM) (k : Nat) : (rtsV x k).length = k := by simp [rtsV]
theorem rtsV_succ (x : EngM) (k : Nat) : rtsV x (k + 1) = rtsV x k ++ [.slice (x.rs.r k).ra (x.rs.r k).rl (x.rs.r k).rc] := by simp [rtsV, List.range_succ]
theorem rtsV_get (x : EngM) {k i : Nat} (h : i < k) : (rtsV x k)[i]? = some (.slice (x.rs.r i).ra (x.rs.r i).rl (x.rs.r i).rc) := by simp [rtsV, h]

/-- All routes, as a state. -/
def EngM.routes (x : EngM) : Tab := ⟨x.rs.gn, fun i => (x.rs.r i).rl, fun i => (x.rs.r i).R⟩

set_option maxHeartbeats 2000000 in
theorem routesOf_any (x : EngM) (w : World) (hx : x.In w.heap.size w) (hg : x.rs.gn ≤ 100) :
    Calls Try.prog 31 #[x.val] w fun r w' => (∃ m : Mat, r = .returned m.val ∧ m.t = x.routes ∧ m.In w'.heap.size w') ∧ Below w.heap.size w w' := by
  obtain ⟨i2, hi2, hx0, hx1, hx2⟩ := info_parts Try.infoInts
  obtain ⟨W1, hW1⟩ : ∃ W1, W1 = w.alloc (.cells x.cells 45) := ⟨_, rfl⟩
  have hB1 : Below w.heap.size w W1 := by rw [hW1]; exact (Below.refl _ w).alloc (Nat.le_refl _) _
  have b1 : Blk W1 w.heap.size x.cells 45 := by rw [hW1]; exact Blk.new w _ _
  obtain ⟨N, hN⟩ : ∃ N, N = x.rs.gn := ⟨_, rfl⟩
  rw [← hN] at hg
  have hcells : x.cells = #[.slice x.rs.ga N x.rs.gc, .slice x.bag.ba x.bag.bn x.bag.bc] := by rw [hN]; rfl
  have H := hide hx
  have HB1 := hide hB1
  have Hb1 := hide b1
  have HN := hide hN
  have Hcells := hide hcells
  rw [hcells] at hW1
  rw [EngM.val, hcells]
  have HW1 := hide hW1
  clear hx hB1 b1 hN hcells hW1
  go_enter Try.func31, Try.ntmps31
  go_wp2_with fail
  rw [← HW1.out]
  go_loopw [3, 4] (fun v q wr => ∃ k : Nat, k ≤ N ∧ q = .int .i64 k ∧ Hid (wr.ownsRow W1.heap.size 22 1 v k (rtsV x k)) ∧ Hid (Below W1.heap.size W1 wr)) (fun _ q _ => N - (intOf q).toNat)
  case atStart => exact ⟨0, Nat.zero_le _, rfl, hide (World.ownsRow_nil _ _ _ _), hide (Below.refl _ _)⟩
  case round =>
    obtain ⟨k, hk, rfl, HO, HBr⟩ := hrel
    have x0 := (Hb1.out.below HBr.out Hb1.out.lt).cell 0
    simp [Hcells.out] at x0
    by_cases hlt : k < N
    · have hki : (k : Int) < (N : Int) := by omega
      have hI := (H.out.below HB1.out (Nat.le_refl _)).below (HBr.out.mono HB1.out.size) (Nat.le_refl _)
      have hkg : k < x.rs.gn := by rw [← HN.out]; exact hlt
      have hga := hI.rs.ga (by omega)
      have c0 := hI.rs.c0 k hkg
      rw [hga] at x0
      have Hga := hide hga
      clear hI hkg hga
      go_wp2_with (at_builtin; refine wpList_append_lies _ rfl _ _ _ rfl W1.heap.size 22 i2 _ 1 24 Try.underlying36 hi2 hx0 hx1 hx2 rfl (by decide) _ k _ rfl (HO.out.alloc _) ⟨wr.heap.size, 0, none⟩ 1 1 [.slice (x.rs.r k).ra (x.rs.r k).rl (x.rs.r k).rc] rfl rfl ?c1 ?c2 (by decide) ?c3 ?c4 ?c5 _ rfl ?_)
      all_goals try (case c1 => exact World.news_of_block (Blk.new' (by simp)))
      all_goals try (case c2 => simp [Value.oneCell'])
      all_goals try (case c3 => unfold maxLen; omega)
      all_goals try (case c4 => omega)
      all_goals try (case c5 => have := HBr.out.size; simp; omega)
      intro g' cap' w4 hown2 hgrow hat2 hlt2
      have HB4 := hide ((HBr.out.alloc HBr.out.size (.cells #[.slice (x.rs.r k).ra (x.rs.r k).rl (x.rs.r k).rc] 22)).trans (grown_below hgrow (fun g hg => (HO.out.lt g hg).1) (by have := HBr.out.size; simp; omega)))
      have HO4 : Hid (w4.ownsRow W1.heap.size 22 1 (.slice (some ⟨g', 0, none⟩) (k + 1) cap') (k + 1) (rtsV x (k + 1))) := hide (by rw [rtsV_succ]; exact hown2)
      clear hown2 hgrow hat2 hlt2 HO HBr
      go_wp2
      go_roundw
      case rel =>
        first
        | exact ⟨k + 1, by omega, by go_num, HO4, HB4⟩
        | ((repeat apply Exists.intro); refine ⟨?_, rfl⟩; exact ⟨k + 1, by omega, by go_num, HO4, HB4⟩)
      case measure => simp [intOf]; omega
    · have hkn : k = N := by omega
      subst hkn
      have hI := ((H.out.below HB1.out (Nat.le_refl _)).below (HBr.out.mono HB1.out.size) (Nat.le_refl _)).rs
      have hbw := HB1.out.trans (HBr.out.mono HB1.out.size)
      have HF : Hid (∃ m : Mat, u3 = m.val ∧ m.t = x.routes ∧ m.In wr.heap.size wr) := hide (by
        have hsz : w.heap.size ≤ wr.heap.size := hbw.size
        rcases Go.Joins.ownsRow_forms HO.out with ⟨e0, e1⟩ | ⟨g, cap, e1⟩
        · refine ⟨⟨none, 0, 0, 0, fun _ => none, fun _ => 0, fun _ => 0, fun _ => 0, x.routes⟩, ?_, rfl, ?_⟩
          · rw [e0]; show _ = Value.slice none x.rs.gn 0; rw [← HN.out, e1]
          · have h0 : x.routes.len = 0 := by show x.rs.gn = 0; rw [← HN.out]; exact e1
            exact ⟨fun h => by rw [h0] at h; omega, fun h => by rw [h0] at h; omega, fun r hr => by rw [h0] at hr; omega, fun r hr => by rw [h0] at hr; omega, fun r hr => by rw [h0] at hr; omega, by rw [h0]; exact Nat.zero_le _, fun r hr => by rw [h0] at hr; omega⟩
        · have ho := HO.out
          have hlt := (ho.lt g (by rw [e1]; rfl)).2
          rw [e1] at ho
          have hn : x.routes.len = k := HN.out.symm
          refine ⟨⟨some ⟨g, 0, none⟩, g, 0, cap, fun i => (x.rs.r i).ra, fun i => (x.rs.r i).rc, fun i => (x.rs.r i).rb, fun i => (x.rs.r i).ro, x.routes⟩, ?_, rfl, ?_⟩
          · rw [e1]; show _ = Value.slice _ x.rs.gn _; rw [← HN.out]
          · refine ⟨fun _ => rfl, fun _ => hlt, fun r hr => ?_, fun r hr h0 => ?_, fun r hr c hc => ?_, by rw [hn]; unfold maxLen; omega, fun r hr => ?_⟩
            · have hr' : r < x.routes.len := hr
              show wr.cell? ⟨g, 0 + r, none⟩ = _
              rw [Nat.zero_add, ho.cellAt r (by omega)]
              exact rtsV_get x (by omega)
            · have hr' : r < x.routes.len := hr
              have hri := hI.r r hr'
              exact ⟨hri.ints.addr h0, Nat.lt_of_lt_of_le (hri.lt h0) hsz⟩
            · have hr' : r < x.routes.len := hr
              exact (hI.r r hr').ints.cell c hc
            · have hr' : r < x.routes.len := hr
              exact (hI.r r hr').ints.len)
      have HBw := hide hbw
      clear hI hbw HO HBr
      go_wp2
      go_ret
      obtain ⟨m, h1, h2, h3⟩ := HF.out
      exact ⟨⟨m, congrArg Ending.returned h1, h2, h3⟩, HBw.out⟩

end Go.Proofs.Ytjhkadffaephmab
