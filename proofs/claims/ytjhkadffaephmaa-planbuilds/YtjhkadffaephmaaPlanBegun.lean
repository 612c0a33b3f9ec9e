/-
  signpostlaw.planBegun.
-/
import Derived.Test.YtjhkadffaephmaaPlanG
import Derived.Test.YtjhkadffaephmaaSame
import Derived.Test.YtjhkadffaephmaaDraw
namespace Go.Proofs.Ytjhkadffaephmaa
set_option maxRecDepth 100000
open Go.RowKit

/-- Hops of one, with one edge that lies at b. -/
def oneM (b : Nat) : PlanM := .mk ⟨1, 1, some ⟨b, 0, none⟩, 1, 1, b, 0, fun _ => 1, none, 0, 0, 0, 0⟩ (fun _ => .no)
/-- Hops of one, with no edge. -/
def bareM : PlanM := .mk ⟨1, 1, none, 0, 0, 0, 0, fun _ => 0, none, 0, 0, 0, 0⟩ (fun _ => .no)

theorem oneM_in {b N : Nat} {w : World} (h : Blk w b #[.int .i64 1] 3) (hb : b < N) : (oneM b).In N w := by
  refine ⟨⟨rfl, rfl, fun _ => rfl, fun _ => hb, fun i hi => ?_, by show 1 ≤ maxLen; unfold maxLen; omega, fun h => absurd h (Nat.not_lt_zero _), fun h => absurd h (Nat.not_lt_zero _), by show 0 * 64 ≤ _; omega⟩, fun i hi => absurd hi (Nat.not_lt_zero _)⟩
  have hi' : i < 1 := hi
  match i, hi' with
  | 0, _ => exact h.cell 0
theorem bareM_in (N : Nat) (w : World) : bareM.In N w :=
  ⟨⟨rfl, rfl, fun h => absurd h (Nat.not_lt_zero _), fun h => absurd h (Nat.not_lt_zero _), fun _ h => absurd h (Nat.not_lt_zero _), Nat.zero_le _, fun h => absurd h (Nat.not_lt_zero _), fun h => absurd h (Nat.not_lt_zero _), by show 0 * 64 ≤ _; omega⟩, fun i hi => absurd hi (Nat.not_lt_zero _)⟩

theorem oneM_chk (b : Nat) : (oneM b).chk = 0 := by rfl
theorem bareM_chk : bareM.chk = 0 := by rfl

theorem one_same (b n : Nat) : (oneM b).res.size = (hopsM n).size ∧ (oneM b).res.B.same (hopsM n).B.t = true ∧ (oneM b).res.E.same (hopsM n).E.t = true := by
  refine ⟨rfl, by rfl, by rfl⟩

/-- What holds of the world all through the last region. -/
structure BegGP (w : World) (b : Nat) (m : AlgM) (W : World) : Prop where
  below : Below w.heap.size w W
  blk : Blk W b #[.int .i64 m.size, m.B.val, m.E.val] 24
  mi : m.In W.heap.size W

/-- What each operation of it leaves. -/
def BegE (m : AlgM) (i : Nat) (v : Value) (W : World) : Prop :=
  match i with
  | 0 => v = .int .i64 0
  | 3 => v = m.val
  | 4 => ∃ n, v = (hopsM n).val ∧ (hopsM n).In W.heap.size W
  | 8 => v = .agg #[.int .i64 1, .int .i64 1, .slice none 0 0, .slice none 0 0]
  | 9 => v = .int .i64 0
  | _ => v = .bool true

theorem BegGP.keep {w : World} {b : Nat} {m : AlgM} {W W' : World} (h : BegGP w b m W) (hb : Below W.heap.size W W') : BegGP w b m W' :=
  ⟨h.below.trans (hb.mono h.below.size), h.blk.below hb h.blk.lt, (h.mi.below hb (Nat.le_refl _)).mono hb.size⟩
theorem BegE.keep {m : AlgM} {W W' : World} (hb : Below W.heap.size W W') (i : Nat) (v : Value) (h : BegE m i v W) : BegE m i v W' := by
  unfold BegE at *
  split at h
  all_goals first | exact h | skip
  obtain ⟨n, h1, h2⟩ := h
  exact ⟨n, h1, (h2.below hb (Nat.le_refl _)).mono hb.size⟩

set_option maxHeartbeats 2000000 in
theorem planBegun_any (w : World) :
    Calls Try.prog 28 #[] w fun e w' => e = .returned (.bool true) ∧ Below w.heap.size w w' := by
  have b0 := Blk.new w #[.int .i64 1] 3
  have hB0 : Below w.heap.size w (w.alloc (.cells #[.int .i64 1] 3)) := (Below.refl _ w).alloc (Nat.le_refl _) _
  have HP := hide (planBuild_any (oneM w.heap.size) _ (oneM_in b0 (by simp)))
  rw [oneM_chk] at HP
  have HK := hide (fun W => planCheck_any bareM W (bareM_in _ _))
  rw [bareM_chk] at HK
  simp only [oneM, bareM, head_mk, PHead.val, PHead.cells] at HP HK
  go_enter Try.func28, Try.ntmps28
  go_wp2_with fail
  go_at_call 26
  refine HP.out.mono ?_
  rintro e w1 ⟨⟨m, rfl, hal, hmi⟩, hb1⟩
  have hB1 := hB0.trans (hb1.mono hB0.size)
  have hb2 : Below w1.heap.size w1 (w1.alloc (.cells #[.int .i64 m.size, m.B.val, m.E.val] 24)) := (Below.refl _ w1).alloc (Nat.le_refl _) _
  have b2 := Blk.new w1 #[.int .i64 m.size, m.B.val, m.E.val] 24
  have hmi2 := (hmi.below hb2 (Nat.le_refl _)).mono hb2.size
  have hB2 := hB1.trans (hb2.mono hB1.size)
  clear HP hB0 b0 hb1
  have x0 := b2.cell 0
  have x1 := b2.cell 1
  have x2 := b2.cell 2
  simp [Mat.val] at x0 x1 x2
  have HAL := hide (show m.alg = (oneM w.heap.size).res from hal)
  simp only [AlgM.val, Mat.val] at *
  clear hal
  go_wp2_with fail
  refine wp_region_each (BegGP w w1.heap.size m) (BegE m) (by kernel_rfl) (by kernel_rfl) (by kernel_rfl) ⟨by first | exact hB2 | exact below_drewN hB2 1, b2, (hmi.below (below_drewN hb2 1) (Nat.le_refl _)).mono (below_drewN hb2 1).size⟩ ⟨?_, ?_, ?_, ?_, ?_, ?_, ?_, ?_, ?_, ?_, ?_, ?_, ?_, trivial⟩ ?_
  all_goals clear x0 x1 x2 b2 hb2 hmi2 hB2
  rotate_right
  · intro t W hG hE
    have e12 : t 12 = .bool true := hE 12 (by decide)
    have hGb := hG.below
    clear hE hG
    simp only [fill, Act.put, List.setIfInBounds_toArray, List.set_cons_zero, List.set_cons_succ, e12]
    go_wp2
    go_ret
    exact ⟨rfl, hGb⟩
  all_goals intro t W hG hp K hK
  all_goals simp only [fill, Act.put, List.setIfInBounds_toArray, List.set_cons_zero, List.set_cons_succ] at hK ⊢
  -- 0: e
  · rw [if_pos (by rfl)]
    go_simp
    exact hK _ W hG rfl (fun _ _ _ h => h)
  -- 1: e == OK
  · have e0 : t 0 = .int .i64 0 := hp 0 (by decide)
    rw [if_pos (by rfl)]
    simp only [e0] at hK ⊢
    go_simp
    exact hK _ W hG rfl (fun _ _ _ h => h)
  · have e1 : t 1 = .bool true := hp 1 (by decide)
    rw [if_pos (by rfl)]
    simp only [e1] at hK ⊢
    go_simp
    exact hK _ W hG rfl (fun _ _ _ h => h)
  -- 3: a
  · have e2 : t 2 = .bool true := hp 2 (by decide)
    simp only [e2] at hK ⊢
    rw [if_pos (by rfl)]
    have c0 := hG.blk.cell 0
    have c1 := hG.blk.cell 1
    have c2 := hG.blk.cell 2
    simp [Mat.val] at c0 c1 c2
    go_simp
    exact hK _ W hG rfl (fun _ _ _ h => h)
  -- 4: hops
  · have e2 : t 2 = .bool true := hp 2 (by decide)
    simp only [e2] at hK ⊢
    rw [if_pos (by rfl)]
    go_simp
    go_at_call 58
    refine (hops_any W).mono ?_
    rintro e W' ⟨rfl, hI, hb⟩
    go_simp
    exact hK _ W' (hG.keep hb) ⟨_, rfl, hI⟩ (fun j u _ => BegE.keep hb j u)
  -- 5: SameAlgebra
  · have e2 : t 2 = .bool true := hp 2 (by decide)
    have e3 : t 3 = m.val := hp 3 (by decide)
    obtain ⟨n, e4, hI⟩ := hp 4 (by decide)
    simp only [e2, e3, e4] at hK ⊢
    rw [if_pos (by rfl)]
    have hsm := one_same w.heap.size n
    rw [← HAL.out] at hsm
    go_simp
    go_at_call 30
    refine (sameAlgebra_yes m (hopsM n) W hG.mi hI hsm.1 hsm.2.1 hsm.2.2).mono ?_
    rintro e W' ⟨rfl, hb⟩
    go_simp
    exact hK _ W' (hG.keep hb) rfl (fun j u _ => BegE.keep hb j u)
  · have e2 : t 2 = .bool true := hp 2 (by decide)
    have e5 : t 5 = .bool true := hp 5 (by decide)
    rw [if_pos (by rfl)]
    simp only [e2, e5] at hK ⊢
    go_simp
    exact hK _ W hG rfl (fun _ _ _ h => h)
  · have e6 : t 6 = .bool true := hp 6 (by decide)
    rw [if_pos (by rfl)]
    simp only [e6] at hK ⊢
    go_simp
    exact hK _ W hG rfl (fun _ _ _ h => h)
  -- 8: the plan with no edge
  · have e7 : t 7 = .bool true := hp 7 (by decide)
    simp only [e7] at hK ⊢
    rw [if_pos (by rfl)]
    go_simp
    exact hK _ W hG rfl (fun _ _ _ h => h)
  · have e7 : t 7 = .bool true := hp 7 (by decide)
    have e8 : t 8 = .agg #[.int .i64 1, .int .i64 1, .slice none 0 0, .slice none 0 0] := hp 8 (by decide)
    simp only [e7, e8] at hK ⊢
    rw [if_pos (by rfl)]
    go_simp
    go_at_call 29
    refine (HK.out W).mono ?_
    rintro e W' ⟨rfl, hb⟩
    go_simp
    exact hK _ W' (hG.keep hb) rfl (fun j u _ => BegE.keep hb j u)
  · have e7 : t 7 = .bool true := hp 7 (by decide)
    have e9 : t 9 = .int .i64 0 := hp 9 (by decide)
    simp only [e7, e9] at hK ⊢
    rw [if_pos (by rfl)]
    go_simp
    exact hK _ W hG rfl (fun _ _ _ h => h)
  · have e7 : t 7 = .bool true := hp 7 (by decide)
    have e10 : t 10 = .bool true := hp 10 (by decide)
    rw [if_pos (by rfl)]
    simp only [e7, e10] at hK ⊢
    go_simp
    exact hK _ W hG rfl (fun _ _ _ h => h)
  · have e11 : t 11 = .bool true := hp 11 (by decide)
    rw [if_pos (by rfl)]
    simp only [e11] at hK ⊢
    go_simp
    exact hK _ W hG rfl (fun _ _ _ h => h)

end Go.Proofs.Ytjhkadffaephmaa
