/-
  algebra.cases: the iterator over all that a law names.
-/
import Derived.RangeFuncNested
import Derived.RangeFuncBound
import Derived.RangeFuncCalls
import Derived.RangeFuncLeaves
import Derived.Shelf.Abstract
import Derived.Shelf.RegionOpen
import Derived.OwnWalkIn
import Derived.TacticsInMore
import Derived.LoopNIn
import Derived.LoopIn
import Derived.Test.YtjhkadffaephmaaPureC
import Derived.Test.YtjhkadffaephmaaSpan
namespace Go.Proofs.Ytjhkadffaephmaa
open Go.RowKit Go.Shelf
attribute [local go_sem] Oper.semAt_some

set_option maxRecDepth 100000 in
set_option maxHeartbeats 2000000 in
theorem cases1_in (F : Fence) (n : Nat) (h64 : F.fn 141) (hro : F.round = none) (_hn : 1 ≤ n) (lr bS bL n₀ : Nat) (l : Int) (sa sb sc se : Nat)
    (hmax : sa ≤ 100 ∧ sb ≤ 100 ∧ sc ≤ 100 ∧ se ≤ 100)
    (J Jx : List { b : Brk // b ∈ casesA l sb sc se sa } → World → Prop)
    (hY : ∀ pre x W, J pre W → pre.length < (casesA l sb sc se sa).length → YieldAt F (n - 1) Try.prog lr #[x.1.val] W fun e W' =>
      (e = .returned (.bool true) ∧ J (pre ++ [x]) W' ∧ Below n₀ W W') ∨ (e = .returned (.bool false) ∧ Jx (pre ++ [x]) W'))
    (W : World) (hbS : bS < n₀) (hbL : bL < n₀) (hL : W.cell? ⟨bL, 0, none⟩ = some (.int .i64 l))
    (c0 : W.cell? ⟨bS, 0, none⟩ = some (.int .i64 sa)) (c1 : W.cell? ⟨bS, 1, none⟩ = some (.int .i64 sb)) (c2 : W.cell? ⟨bS, 2, none⟩ = some (.int .i64 sc)) (c3 : W.cell? ⟨bS, 3, none⟩ = some (.int .i64 se))
    (h0 : J [] W) :
    CallsIn F n Try.prog 141 #[.func (.yield lr) #[] #[], .pointer (some ⟨bS, 0, none⟩), .pointer (some ⟨bL, 0, none⟩)] W fun e W' => (∃ v, e = .returned v) ∧
      ((∃ ys, ys.map (·.1) = casesA l sb sc se sa ∧ J ys W') ∨ (∃ pre, pre.map (·.1) <+: casesA l sb sc se sa ∧ Jx pre W')) := by
  obtain ⟨m0, m1, m2, m3⟩ := hmax
  have HY := hide hY
  clear hY
  refine callsIn_of_wp Try.func141 rfl h64 ?_ hro
  simp only [Try.ntmps141, List.size_toArray, List.length_cons, List.length_nil, Nat.reduceAdd, Nat.reduceSub, Array.replicate_succ, Array.replicate_zero, List.push_toArray, List.append_toArray, List.nil_append, List.cons_append]
  gi_wp2
  gi_loopw [10] (fun c wr => ∃ (x : Nat) (pre : List { b : Brk // b ∈ casesA l sb sc se sa }), x ≤ sa ∧ c = .int .i64 x ∧ Hid (pre.map (·.1) = casesTo l sb sc se x 0 0 0) ∧ Hid (Below n₀ W wr) ∧ J pre wr)
    (fun c _ => sa - (intOf c).toNat)
  case atStart => exact ⟨0, [], Nat.zero_le _, rfl, hide (by rw [casesTo_0]; rfl), hide (Below.refl _ _), h0⟩
  case round =>
    obtain ⟨x, pre, hx, rfl, Hp, HB, hJ⟩ := hrel
    by_cases hxs : x < sa
    · have d1 : wr.cell? ⟨bS, 1, none⟩ = some (.int .i64 sb) := (HB.out.cell (p := ⟨bS, 1, none⟩) hbS).trans c1
      gi_wp2
      gi_loopw [15] (fun c wr => ∃ (y : Nat) (pre : List { b : Brk // b ∈ casesA l sb sc se sa }), y ≤ sb ∧ c = .int .i64 y ∧ Hid (pre.map (·.1) = casesTo l sb sc se x y 0 0) ∧ Hid (Below n₀ W wr) ∧ J pre wr)
        (fun c _ => sb - (intOf c).toNat)
      case atStart => exact ⟨0, pre, Nat.zero_le _, rfl, Hp, HB, hJ⟩
      case round =>
        clear d1 hJ HB Hp pre
        obtain ⟨y, pre, hy, rfl, Hp, HB, hJ⟩ := hrel
        by_cases hys : y < sb
        · have d2 : wr.cell? ⟨bS, 2, none⟩ = some (.int .i64 sc) := (HB.out.cell (p := ⟨bS, 2, none⟩) hbS).trans c2
          gi_wp2
          gi_loopw [20] (fun c wr => ∃ (z : Nat) (pre : List { b : Brk // b ∈ casesA l sb sc se sa }), z ≤ sc ∧ c = .int .i64 z ∧ Hid (pre.map (·.1) = casesTo l sb sc se x y z 0) ∧ Hid (Below n₀ W wr) ∧ J pre wr)
            (fun c _ => sc - (intOf c).toNat)
          case atStart => exact ⟨0, pre, Nat.zero_le _, rfl, Hp, HB, hJ⟩
          case round =>
            clear d2 hJ HB Hp pre
            obtain ⟨z, pre, hz, rfl, Hp, HB, hJ⟩ := hrel
            by_cases hzs : z < sc
            · have d3 : wr.cell? ⟨bS, 3, none⟩ = some (.int .i64 se) := (HB.out.cell (p := ⟨bS, 3, none⟩) hbS).trans c3
              gi_wp2
              gi_loopw [25] (fun c wr => ∃ (e : Nat) (pre : List { b : Brk // b ∈ casesA l sb sc se sa }), e ≤ se ∧ c = .int .i64 e ∧ Hid (pre.map (·.1) = casesTo l sb sc se x y z e) ∧ Hid (Below n₀ W wr) ∧ J pre wr)
                (fun c _ => se - (intOf c).toNat)
              case atStart => exact ⟨0, pre, Nat.zero_le _, rfl, Hp, HB, hJ⟩
              case round =>
                clear d3 hJ HB Hp pre
                obtain ⟨e, pre, he, rfl, Hp, HB, hJ⟩ := hrel
                by_cases hes : e < se
                · have d4 : wr.cell? ⟨bL, 0, none⟩ = some (.int .i64 l) := (HB.out.cell (p := ⟨bL, 0, none⟩) hbL).trans hL
                  have hlen : pre.length < (casesA l sb sc se sa).length := by
                    have := casesTo_len l hxs hys hzs hes
                    rw [← Hp.out, List.length_map] at this
                    exact this
                  obtain ⟨fn, tmps, assign, body, hy0, hR⟩ := HY.out pre ⟨⟨l, x, y, z, e⟩, casesTo_mem l hxs hys hzs hes⟩ wr hJ hlen
                  dsimp only [Brk.val] at hy0
                  have HR := hide hR
                  clear hR hlen
                  gi_wp2
                  refine HR.out.mono ?_
                  rintro en W3 (⟨rfl, hJ3, hk3⟩ | ⟨rfl, hJx3⟩)
                  · have HB3 := hide (HB.out.trans hk3)
                    clear hk3 HR hy0 d4
                    gi_wp2
                    go_roundw
                    case rel => exact ⟨e + 1, _, by omega, by go_num, hide (by rw [casesTo_snoc, ← Hp.out]; simp), HB3, hJ3⟩
                    case measure => simp [intOf]; omega
                  · clear HR hy0 d4
                    gi_wp2
                    refine bodyPost_ret (results_none rfl _ _ _) rfl ?_
                    refine ⟨⟨_, rfl⟩, .inr ⟨_, ?_, hJx3⟩⟩
                    have hpr := casesTo_pre l hxs hys hzs (show e + 1 ≤ se from hes)
                    rw [casesTo_snoc, ← Hp.out] at hpr
                    simpa using hpr
                · obtain rfl : e = se := by omega
                  have Hp' := hide (Hp.out.trans (casesTo_e l sb sc e x y z))
                  gi_wp2
                  go_roundw
                  case rel => exact ⟨z + 1, pre, by omega, by go_num, Hp', HB, hJ⟩
                  case measure => simp [intOf]; omega
            · obtain rfl : z = sc := by omega
              have Hp' := hide (Hp.out.trans (casesTo_c l sb z se x y))
              gi_wp2
              go_roundw
              case rel => exact ⟨y + 1, pre, by omega, by go_num, Hp', HB, hJ⟩
              case measure => simp [intOf]; omega
        · obtain rfl : y = sb := by omega
          have Hp' := hide (Hp.out.trans (casesTo_b l y sc se x))
          gi_wp2
          go_roundw
          case rel => exact ⟨x + 1, pre, by omega, by go_num, Hp', HB, hJ⟩
          case measure => simp [intOf]; omega
    · obtain rfl : x = sa := by omega
      have Hp' := hide (Hp.out.trans (casesTo_a l sb sc se x))
      gi_wp2
      go_end0
      exact ⟨⟨_, rfl⟩, .inl ⟨pre, Hp'.out, hJ⟩⟩

end Go.Proofs.Ytjhkadffaephmaa
