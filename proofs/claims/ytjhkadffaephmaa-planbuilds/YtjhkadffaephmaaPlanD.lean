/-
  plan.measurePair, plan.measureFilter.
-/
import Derived.Test.YtjhkadffaephmaaPlanC
namespace Go.Proofs.Ytjhkadffaephmaa
open Go.RowKit

theorem below_set2 {W W' : World} {k B : Nat} (h : Below k W W') (hk : k ≤ B) (u v : Value) : Below k W ((W'.setCell ⟨B, 0, none⟩ u).setCell ⟨B, 1, none⟩ v) :=
  (h.setCell (p := ⟨B, 0, none⟩) hk _).setCell (p := ⟨B, 1, none⟩) hk _

theorem pow_range {n : Nat} (h1 : 3 ≤ n) (h2 : n ≤ 24) : (8 : Int) ≤ 2 ^ n ∧ (2 : Int) ^ n ≤ 16777216 := by
  have a : 2 ^ 3 ≤ 2 ^ n := Nat.pow_le_pow_right (by omega) h1
  have b : 2 ^ n ≤ 2 ^ 24 := Nat.pow_le_pow_right (by omega) h2
  have e : ((2 ^ n : Nat) : Int) = (2 : Int) ^ n := by simp
  omega

set_option maxHeartbeats 2000000 in
theorem measurePair_any (h : PHead) (ga : Option Addr) (cap gb : Nat) (s g : Nat → Nat) (w : World) (hh : h.In w.heap.size w) (hs : Shapes ga h.pn gb s g w) (hr : ∀ i, i < h.pn → 3 ≤ s i ∧ s i ≤ 24) :
    Calls Try.prog 111 #[h.val, .slice ga h.pn cap] w fun e w' => Measured (pairErr h s g) ((s 0 - 1) * (s 1 - 1) + 1) (g 0) e ∧ Below w.heap.size w w' := by
  have hel := hh.elen
  unfold maxLen at hel
  have hpl := hh.plen
  have hb1 : ∀ u v : Value, Below w.heap.size w ((w.alloc (.cells h.cells 42)).alloc (.cells #[u, v] 103)) := fun u v => ((Below.refl _ w).alloc (Nat.le_refl _) _).alloc (by simp) _
  have hs' := hs.below (hb1 (.int .i64 0) (.int .i64 0))
  simp only [PHead.val, PHead.cells] at *
  by_cases hpn : h.pn = 2
  · have hpi : ((h.pn : Int) != 2) = false := by simp [hpn]
    by_cases h1 : h.n = 0
    · have h1i : ((h.n : Int) != 0) = false := by simp [h1]
      by_cases h2 : h.en = 0
      · have h2i : ((h.en : Int) != 0) = false := by simp [h2]
        have ha := hs'.addr (by omega)
        subst ha
        have x0 := hs'.c0 0 (by omega)
        have x1 := hs'.c1 0 (by omega)
        have y0 := hs'.c0 1 (by omega)
        have y1 := hs'.c1 1 (by omega)
        simp at x0 x1 y0 y1
        have hr0 := hr 0 (by omega)
        have hr1 := hr 1 (by omega)
        have hb0 : (0 : Int) < (h.pn : Int) := by omega
        have hb2 : (1 : Int) < (h.pn : Int) := by omega
        by_cases h3 : g 0 = g 1
        · have h3i : ((g 0 : Int) != (g 1 : Int)) = false := by simp [h3]
          have hx : ((s 0 : Int) - 1) * ((s 1 : Int) - 1) = (((s 0 - 1) * (s 1 - 1) : Nat) : Int) := by
            rw [Int.natCast_mul, Int.ofNat_sub (by omega), Int.ofNat_sub (by omega)]; rfl
          have hP : (s 0 - 1) * (s 1 - 1) ≤ 23 * 23 := Nat.mul_le_mul (by omega) (by omega)
          by_cases h4 : 24 < (s 0 - 1) * (s 1 - 1) + 1
          · have e : pairErr h s g = 2 := by unfold pairErr; rw [if_neg (by omega), if_neg (by omega), if_neg (by omega), if_neg (by omega), if_pos h4]
            rw [e]
            generalize (s 0 - 1) * (s 1 - 1) = pp at *
            have h4i : (24 : Int) < (pp : Int) + 1 := by omega
            clear hpn h1 h2 h3 h4 hr
            go_enter Try.func111, Try.ntmps111
            go_wp2_with fail
            go_quiet (fail)
            go_wp2_with fail
            go_quiet (fail)
            go_wp2
            refine bodyPost_ret (v := .tuple #[.agg #[.int .i64 0, .int .i64 0], .int .i64 2]) (by simp [results, Try.results111, go_sem]) rfl ⟨measured_err (by decide), below_set2 (below_drewN (hb1 _ _) _) (by omega) _ _⟩
          · have e : pairErr h s g = 0 := by unfold pairErr; rw [if_neg (by omega), if_neg (by omega), if_neg (by omega), if_neg (by omega), if_neg h4]
            rw [e]
            generalize (s 0 - 1) * (s 1 - 1) = pp at *
            have h4i : (pp : Int) + 1 ≤ 24 := by omega
            clear hpn h1 h2 h3 h4 hr
            go_enter Try.func111, Try.ntmps111
            go_wp2_with fail
            go_quiet (fail)
            go_wp2_with fail
            go_quiet (fail)
            go_wp2
            refine bodyPost_ret (v := .tuple #[.agg #[.int .i64 ((pp : Int) + 1), .int .i64 (g 0)], .int .i64 0]) (by simp [results, Try.results111, go_sem]) rfl ⟨⟨pp + 1, g 0, rfl, fun _ => ⟨rfl, rfl⟩⟩, below_set2 (below_drewN (hb1 _ _) _) (by omega) _ _⟩
        · have h3i : ((g 0 : Int) != (g 1 : Int)) = true := by simp; omega
          have e : pairErr h s g = 4 := by unfold pairErr; rw [if_neg (by omega), if_neg (by omega), if_neg (by omega), if_pos h3]
          rw [e]
          clear hpn h1 h2 h3 hr
          go_enter Try.func111, Try.ntmps111
          go_wp2_with fail
          go_quiet (fail)
          go_wp2
          refine bodyPost_ret (v := .tuple #[.agg #[.int .i64 0, .int .i64 0], .int .i64 4]) (by simp [results, Try.results111, go_sem]) rfl ⟨measured_err (by decide), below_set2 (below_drewN (hb1 _ _) _) (by omega) _ _⟩
      · have h2i : ((h.en : Int) != 0) = true := by simp; omega
        have e : pairErr h s g = 1 := by unfold pairErr; rw [if_neg (by omega), if_neg (by omega), if_pos h2]
        rw [e]
        clear hpn h1 h2 hr
        go_enter Try.func111, Try.ntmps111
        go_wp2
        refine bodyPost_ret (v := .tuple #[.agg #[.int .i64 0, .int .i64 0], .int .i64 1]) (by simp [results, Try.results111, go_sem]) rfl ⟨measured_err (by decide), hb1 _ _⟩
    · have h1i : ((h.n : Int) != 0) = true := by simp; omega
      have e : pairErr h s g = 3 := by unfold pairErr; rw [if_neg (by omega), if_pos h1]
      rw [e]
      clear hpn h1 hr
      go_enter Try.func111, Try.ntmps111
      go_wp2
      refine bodyPost_ret (v := .tuple #[.agg #[.int .i64 0, .int .i64 0], .int .i64 3]) (by simp [results, Try.results111, go_sem]) rfl ⟨measured_err (by decide), hb1 _ _⟩
  · have hpi : ((h.pn : Int) != 2) = true := by simp; omega
    have e : pairErr h s g = 1 := by unfold pairErr; rw [if_pos hpn]
    rw [e]
    clear hpn hr
    go_enter Try.func111, Try.ntmps111
    go_wp2
    refine bodyPost_ret (v := .tuple #[.agg #[.int .i64 0, .int .i64 0], .int .i64 1]) (by simp [results, Try.results111, go_sem]) rfl ⟨measured_err (by decide), hb1 _ _⟩

set_option maxHeartbeats 2000000 in
theorem measureFilter_any (h : PHead) (ga : Option Addr) (cap gb : Nat) (s g : Nat → Nat) (w : World) (hh : h.In w.heap.size w) (hs : Shapes ga h.pn gb s g w) (hr : ∀ i, i < h.pn → 3 ≤ s i ∧ s i ≤ 24) :
    Calls Try.prog 112 #[h.val, .slice ga h.pn cap] w fun e w' => Measured (filtErr h s g) (s 0) (g 0) e ∧ Below w.heap.size w w' := by
  have hel := hh.elen
  unfold maxLen at hel
  have hpl := hh.plen
  have hb1 : ∀ u v : Value, Below w.heap.size w ((w.alloc (.cells h.cells 42)).alloc (.cells #[u, v] 103)) := fun u v => ((Below.refl _ w).alloc (Nat.le_refl _) _).alloc (by simp) _
  have hs' := hs.below (hb1 (.int .i64 0) (.int .i64 0))
  have HA := hide (fun q => allWithin_any h 0 (2 ^ s 0 - 1) w.heap.size _ (hh.below (below_drewN (hb1 (.int .i64 0) (.int .i64 0)) q) (Nat.le_refl _)))
  simp only [PHead.val, PHead.cells] at *
  by_cases hpn : h.pn = 1
  · have hpi : ((h.pn : Int) != 1) = false := by simp [hpn]
    by_cases h1 : h.n = 0
    · have h1i : ((h.n : Int) != 0) = false := by simp [h1]
      have ha := hs'.addr (by omega)
      subst ha
      have x0 := hs'.c0 0 (by omega)
      have x1 := hs'.c1 0 (by omega)
      simp at x0 x1
      have hr0 := hr 0 (by omega)
      have hb0 : (0 : Int) < (h.pn : Int) := by omega
      by_cases h3 : h.en = g 0
      · have h3i : ((h.en : Int) != (g 0 : Int)) = false := by simp [h3]
        obtain ⟨T0, T1⟩ := pow_range hr0.1 hr0.2
        obtain ⟨T, hT⟩ : ∃ T : Int, (2 : Int) ^ s 0 = T := ⟨_, rfl⟩
        have e3 : within h.ev h.en 0 (T - 1) = false → filtErr h s g = 3 := fun hw => by unfold filtErr; rw [hT, if_neg (by omega), if_neg (by omega), if_neg (by omega), if_pos hw]
        have e0 : within h.ev h.en 0 (T - 1) = true → filtErr h s g = 0 := fun hw => by unfold filtErr; rw [hT, if_neg (by omega), if_neg (by omega), if_neg (by omega), if_neg (by rw [hw]; simp)]
        rw [hT] at T0 T1
        simp only [hT] at HA
        cases hw : within h.ev h.en 0 (T - 1) with
        | false =>
          rw [e3 hw]
          simp only [hw] at HA
          clear hpn h1 h3 hr hw e3 e0
          go_enter Try.func112, Try.ntmps112
          go_wp2_with fail
          go_quiet (fail)
          go_wp2_with fail
          go_quiet ((go_at_call 138; exact (HA.out _).mono (fun _ _ ⟨he, hq⟩ => ⟨he, _, hq⟩)))
          go_wp2
          refine bodyPost_ret (v := .tuple #[.agg #[.int .i64 0, .int .i64 0], .int .i64 3]) (by simp [results, Try.results112, go_sem]) rfl ⟨measured_err (by decide), below_set2 (below_drewN (hb1 _ _) _) (by omega) _ _⟩
        | true =>
          rw [e0 hw]
          simp only [hw] at HA
          clear hpn h1 h3 hr hw e3 e0
          go_enter Try.func112, Try.ntmps112
          go_wp2_with fail
          go_quiet (fail)
          go_wp2_with fail
          go_quiet ((go_at_call 138; exact (HA.out _).mono (fun _ _ ⟨he, hq⟩ => ⟨he, _, hq⟩)))
          go_wp2
          refine bodyPost_ret (v := .tuple #[.agg #[.int .i64 (s 0), .int .i64 (g 0)], .int .i64 0]) (by simp [results, Try.results112, go_sem]) rfl ⟨⟨s 0, g 0, rfl, fun _ => ⟨rfl, rfl⟩⟩, below_set2 (below_drewN (hb1 _ _) _) (by omega) _ _⟩
      · have h3i : ((h.en : Int) != (g 0 : Int)) = true := by simp; omega
        have e : filtErr h s g = 4 := by unfold filtErr; rw [if_neg (by omega), if_neg (by omega), if_pos h3]
        rw [e]
        clear hpn h1 h3 hr
        go_enter Try.func112, Try.ntmps112
        go_wp2_with fail
        go_quiet (fail)
        go_wp2
        refine bodyPost_ret (v := .tuple #[.agg #[.int .i64 0, .int .i64 0], .int .i64 4]) (by simp [results, Try.results112, go_sem]) rfl ⟨measured_err (by decide), below_set2 (below_drewN (hb1 _ _) _) (by omega) _ _⟩
    · have h1i : ((h.n : Int) != 0) = true := by simp; omega
      have e : filtErr h s g = 3 := by unfold filtErr; rw [if_neg (by omega), if_pos h1]
      rw [e]
      clear hpn h1 hr
      go_enter Try.func112, Try.ntmps112
      go_wp2
      refine bodyPost_ret (v := .tuple #[.agg #[.int .i64 0, .int .i64 0], .int .i64 3]) (by simp [results, Try.results112, go_sem]) rfl ⟨measured_err (by decide), hb1 _ _⟩
  · have hpi : ((h.pn : Int) != 1) = true := by simp; omega
    have e : filtErr h s g = 1 := by unfold filtErr; rw [if_pos hpn]
    rw [e]
    clear hpn hr
    go_enter Try.func112, Try.ntmps112
    go_wp2
    refine bodyPost_ret (v := .tuple #[.agg #[.int .i64 0, .int .i64 0], .int .i64 1]) (by simp [results, Try.results112, go_sem]) rfl ⟨measured_err (by decide), hb1 _ _⟩

end Go.Proofs.Ytjhkadffaephmaa
