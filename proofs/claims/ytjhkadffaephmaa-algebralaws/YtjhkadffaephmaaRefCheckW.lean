/-
  signpostref.CheckAlgebra: the walk.
-/
import Derived.Test.YtjhkadffaephmaaRefCheck
import Derived.Deep.CutRange
namespace Go.Proofs.Ytjhkadffaephmaa
set_option maxRecDepth 100000
open Go.RowKit

theorem Alg.check_small {a : Alg} (h1 : 2 ≤ a.size) (h2 : a.size ≤ 24) (h3 : a.E.len ≤ 8) (h4 : (a.B.len : Int) = a.size) :
    a.check = if (a.B.append a.E).wide a.size = false then 1 else if (a.B.append a.E).routes a.size = false then 5 else 0 := by
  rw [Tab.append_wide, Tab.append_routes]
  unfold Alg.check Alg.formOk Alg.routesOk
  rw [if_neg (by omega), if_neg (by omega)]
  simp [h4]

set_option maxHeartbeats 4000000 in
theorem refCheck_small (a : AlgM) (w : World) (h : a.In w.heap.size w) (h1 : 2 ≤ a.size) (h2 : a.size ≤ 24) (h3 : a.E.t.len ≤ 8) (h4 : (a.B.t.len : Int) = a.size) :
    Calls Try.prog 18 #[a.val] w fun e w' => e = .returned (.int .i64 a.alg.check) ∧ Below w.heap.size w w' := by
  have Hck := hide (Alg.check_small (a := a.alg) h1 h2 h3 h4)
  have H4 := hide h4
  have h3' : (a.E.t.len : Int) ≤ 8 := by omega
  have h4' : ((a.B.t.len : Int) != a.size) = false := by simp [h4]
  have hbl : a.B.t.len ≤ 24 := by omega
  have hEl := h.E.len
  have hBl := h.B.len
  unfold maxLen at hEl hBl
  have hb0 : ∀ o, Below w.heap.size w (w.alloc o) := fun o => (Below.refl _ _).alloc (Nat.le_refl _) _
  clear h4
  obtain ⟨size, B, E⟩ := a
  simp only [AlgM.val, AlgM.alg] at *
  have hBv : B.val = .slice B.ga B.t.len B.cap := rfl
  have hEv : E.val = .slice E.ga E.t.len E.cap := rfl
  rw [hBv, hEv]
  have HBv := hide hBv
  have HEv := hide hEv
  clear hBv hEv
  go_enter Try.func18, Try.ntmps18
  go_wp2_with (go_at_call 56; refine (between_any _ _ _ _).mono ?_; rintro e w' ⟨rfl, rfl⟩)
  have hI1 := h.below (((hb0 (.cells #[.int .i64 size, .slice B.ga B.t.len B.cap, .slice E.ga E.t.len E.cap] 24)).alloc (by simp) (.cells #[] 32)).trans (Below.mono (below_dr _) (by simp; omega))) (Nat.le_refl _)
  have bA0 : Blk ((w.alloc (.cells #[.int .i64 size, .slice B.ga B.t.len B.cap, .slice E.ga E.t.len E.cap] 24)).alloc (.cells #[] 32)).drew w.heap.size #[.int .i64 size, .slice B.ga B.t.len B.cap, .slice E.ga E.t.len E.cap] 24 := (Blk.new w _ _).alloc _
  have hB0 := (((hb0 (.cells #[.int .i64 size, .slice B.ga B.t.len B.cap, .slice E.ga E.t.len E.cap] 24)).alloc (by simp) (.cells #[] 32)).trans (Below.mono (below_dr _) (by simp; omega)))
  have hsz0 : ((w.alloc (.cells #[.int .i64 size, .slice B.ga B.t.len B.cap, .slice E.ga E.t.len E.cap] 24)).alloc (.cells #[] 32)).drew.heap.size = w.heap.size + 2 := by
    show ((w.alloc (.cells #[.int .i64 size, .slice B.ga B.t.len B.cap, .slice E.ga E.t.len E.cap] 24)).alloc (.cells #[] 32)).heap.size = _
    simp
  have hown0 : World.ownsRow ((w.alloc (.cells #[.int .i64 size, .slice B.ga B.t.len B.cap, .slice E.ga E.t.len E.cap] 24)).alloc (.cells #[] 32)).drew (w.heap.size + 1) 32 1 (.slice (some ⟨w.heap.size + 1, 0, none⟩) 0 0) 0 [] := by
    have := World.ownsRow_made (w.alloc (.cells #[.int .i64 size, .slice B.ga B.t.len B.cap, .slice E.ga E.t.len E.cap] 24)) #[] 0 (base := w.heap.size + 1) (e := 32) (size := 1) (by simp) (Nat.zero_le _) (by simp)
    simp only [World.size_alloc] at this
    exact this
  obtain ⟨g1, c1, W1, hrun1, hown1, hgr1⟩ := append_mat _ (w.heap.size + 1) w.heap.size (w.heap.size + 1) 0 0 [] hown0 B hI1.B (by rw [hsz0]; omega) (by omega) 22
  have hW1 : Below (w.heap.size + 1) _ W1 := (Below.refl _ _).grown hgr1 (by rw [hsz0]; omega) (fun k e => by cases e; exact Nat.le_refl _)
  have bA1 := bA0.below hW1 (by omega)
  have hI2 := hI1.below hW1 (by omega)
  have hsz1 := hW1.size
  rw [hsz0] at hsz1
  simp only [Nat.zero_add, List.nil_append] at hrun1 hown1
  obtain ⟨g2, c2, W2, hrun2, hown2, hgr2⟩ := append_mat _ (w.heap.size + 1) w.heap.size g1 c1 B.t.len B.rows hown1 E hI2.E (by omega) (by omega) 22
  have hg1 := (hown1.lt g1 rfl).1
  have hW2 : Below (w.heap.size + 1) W1 W2 := (Below.refl _ _).grown hgr2 (by omega) (fun k e => by cases e; exact hg1)
  have bA2 := bA1.below hW2 (by omega)
  have hI3 := hI2.below hW2 (by omega)
  have hsz2 := hW2.size
  have hBW2 := hB0.trans ((hW1.trans hW2).mono (by omega))
  obtain ⟨m, hmv, hmI, hmt⟩ := all_mat hown2 hI3.B hI3.E (by omega) (by omega)
  have Hm := hide (show ∃ m : Mat, Value.slice (some ⟨g2, 0, none⟩) (B.t.len + E.t.len) c2 = .slice m.ga m.t.len m.cap ∧ Hid (m.In W2.heap.size W2) ∧ Hid (m.t = B.t.append E.t) ∧ Hid (Blk W2 w.heap.size #[.int .i64 size, .slice B.ga B.t.len B.cap, .slice E.ga E.t.len E.cap] 24) ∧ Hid (Below w.heap.size w W2) from ⟨m, hmv.symm, hmI, hmt, bA2, hBW2⟩)
  rw [HBv.out] at hrun1
  rw [HEv.out] at hrun2
  have d0 := bA1.cell 0
  have d1 := bA1.cell 1
  have d2 := bA1.cell 2
  simp at d0 d1 d2
  have R1 := hide hrun1
  have R2 := hide hrun2
  clear hmv hmI hmt m hBW2 hsz2 hI3 bA2 hW2 hg1 hgr2 hown2 hrun2 hrun1 hsz1 hI2 bA1 hW1 hgr1 hown1 hown0 hsz0 hB0 bA0 hI1
  go_cut [3] from 21 to 27 (fun s3 wx => ∃ m : Mat, s3 = .slice m.ga m.t.len m.cap ∧ Hid (m.In wx.heap.size wx) ∧ Hid (m.t = B.t.append E.t) ∧ Hid (Blk wx w.heap.size #[.int .i64 size, .slice B.ga B.t.len B.cap, .slice E.ga E.t.len E.cap] 24) ∧ Hid (Below w.heap.size w wx))
  case first =>
    go_region_law (first
      | (refine step_append_run rfl (.tmp 21) (.tmp 23) 22 rfl _ _ (by simp [Act.eval]) (by simp [Act.eval]) _ _ R1.out ?_)
      | (refine step_append_run rfl (.tmp 24) (.tmp 26) 22 rfl _ _ (by simp [Act.eval]) (by simp [Act.eval]) _ _ R2.out ?_))
    all_goals
      go_wp2_with fail
      go_meet
      exact Hm.out
  case rest =>
    obtain ⟨m, rfl, HI, HT, HA, HB⟩ := hcut
    clear Hm R1 R2 d0 d1 d2 HBv HEv hb0
    have hml := HI.out.len
    unfold maxLen at hml
    have hmn : Hid (m.t.len ≤ 32) := hide (by rw [HT.out]; show B.t.len + E.t.len ≤ 32; omega)
    have hck : Hid (Alg.check ⟨size, B.t, E.t⟩ = if m.t.wide size = false then 1 else if m.t.routes size = false then 5 else 0) := hide (by rw [HT.out]; exact Hck.out)
    clear Hck
    go_wp2
    go_loopw [4] (fun i wr => ∃ k : Nat, k ≤ m.t.len ∧ i = .int .i64 k ∧ Hid (∀ r, r < k → (m.t.L r : Int) = size) ∧ Hid (Below wc.heap.size wc wr)) (fun i _ => m.t.len - (intOf i).toNat)
    case atStart => exact ⟨0, Nat.zero_le _, rfl, hide (fun r hr => absurd hr (Nat.not_lt_zero _)), hide (Below.refl _ _)⟩
    case round =>
      obtain ⟨k, hk, rfl, Hall, HBr⟩ := hrel
      have bA3 := HA.out.below HBr.out HA.out.lt
      have c0 := bA3.cell 0
      simp at c0
      have hBw := hide (HB.out.trans (HBr.out.mono HB.out.size))
      by_cases hlt : k < m.t.len
      · have hI3 := HI.out.below HBr.out (Nat.le_refl _)
        have hga := HI.out.ga (by omega)
        have hrow := hI3.row k hlt
        have hlens := HI.out.lens k hlt
        unfold maxLen at hlens
        have hkz : (k : Int) < (m.t.len : Int) := by omega
        clear hI3
        by_cases he : (m.t.L k : Int) = size
        · have he' : ((m.t.L k : Int) != size) = false := by simp [he]
          have He := hide he
          clear he
          go_wp2_with fail
          go_quiet (fail)
          go_wp2
          go_roundw
          case rel => exact ⟨k + 1, by omega, by go_num, hide (fun r hr => by
            by_cases e : r = k
            · subst e; exact He.out
            · exact Hall.out r (by omega)), hide (below_drewN HBr.out _)⟩
          case measure => simp [intOf]; omega
        · have he' : ((m.t.L k : Int) != size) = true := by simp [he]
          have hfin := hide (show Alg.check ⟨size, B.t, E.t⟩ = 1 by rw [hck.out]; simp [Tab.wide_false hlt he])
          clear he
          go_wp2_with fail
          go_quiet (fail)
          go_wp2
          go_ret
          exact ⟨by rw [hfin.out]; rfl, below_drewN hBw.out _⟩
      · have hwide : m.t.wide size = true := (m.t.wide_iff size).2 (fun r hr => Hall.out r (by omega))
        have hck2 : Hid (Alg.check ⟨size, B.t, E.t⟩ = if m.t.routes size = false then 5 else 0) := hide (by rw [hck.out, hwide]; rfl)
        have HW := hide hwide
        clear hwide
        go_wp2
        go_loopw [5, 6] (fun i _ wr => ∃ k : Nat, k ≤ m.t.len ∧ i = .int .i64 k ∧ Hid (∀ r, r < k → ∀ c, c < m.t.L r → 0 ≤ m.t.Z r c ∧ m.t.Z r c < size) ∧ Hid (Below wc.heap.size wc wr)) (fun i _ _ => m.t.len - (intOf i).toNat)
        case atStart => exact ⟨0, Nat.zero_le _, rfl, hide (fun r hr => absurd hr (Nat.not_lt_zero _)), HBr⟩
        case round =>
          clear Hall bA3 c0 hBw HBr
          obtain ⟨i, hi, rfl, Hall, HBr⟩ := hrel
          by_cases hlt2 : i < m.t.len
          · have hga := HI.out.ga (by omega)
            have hlens := HI.out.lens i hlt2
            unfold maxLen at hlens
            have hLi : Hid ((m.t.L i : Int) = size) := hide ((m.t.wide_iff size).1 HW.out i hlt2)
            have hkz : (i : Int) < (m.t.len : Int) := by omega
            go_wp2
            go_loopw [6] (fun j wr => ∃ c : Nat, (c : Int) ≤ size ∧ j = .int .i64 c ∧ Hid (∀ c', c' < c → 0 ≤ m.t.Z i c' ∧ m.t.Z i c' < size) ∧ Hid (Below wc.heap.size wc wr)) (fun j _ => size.toNat - (intOf j).toNat)
            case atStart => exact ⟨0, by omega, rfl, hide (fun r hr => absurd hr (Nat.not_lt_zero _)), HBr⟩
            case round =>
              clear HBr
              obtain ⟨c, hc, rfl, Hrow, HBr⟩ := hrel
              have bA3 := HA.out.below HBr.out HA.out.lt
              have c0 := bA3.cell 0
              simp at c0
              have hBw := hide (HB.out.trans (HBr.out.mono HB.out.size))
              by_cases hcs : (c : Int) < size
              · have hI3 := HI.out.below HBr.out (Nat.le_refl _)
                have hcl : c < m.t.L i := by have := hLi.out; omega
                have hrow := hI3.row i hlt2
                have hA := (HI.out.addr i hlt2 (by omega)).1
                rw [hA] at hrow
                have hcell := hI3.cell i hlt2 c hcl
                have hcz : (c : Int) < (m.t.L i : Int) := by omega
                clear hI3 hA
                by_cases hok : 0 ≤ m.t.Z i c ∧ m.t.Z i c ≤ size - 1
                · have hb : (decide (0 ≤ m.t.Z i c) && decide (m.t.Z i c ≤ size - 1)) = true := by simp [hok]
                  have CB := hide (fun W => show Calls Try.prog 56 #[.int .i64 (m.t.Z i c), .int .i64 0, .int .i64 (size - 1)] W fun e w' => e = .returned (.bool true) ∧ w' = W from by rw [← hb]; exact between_any _ _ _ W)
                  have Hok := hide hok
                  clear hok hb
                  go_wp2_with fail
                  go_quiet ((go_at_call 56; exact Calls.quiet_of_same (CB.out _)))
                  go_wp2
                  go_roundw
                  case rel => exact ⟨c + 1, by omega, by go_num, hide (fun c' hc' => by
                    by_cases e : c' = c
                    · subst e; have := Hok.out; omega
                    · exact Hrow.out c' (by omega)), hide (below_drewN HBr.out _)⟩
                  case measure => simp [intOf]; omega
                · have hb : (decide (0 ≤ m.t.Z i c) && decide (m.t.Z i c ≤ size - 1)) = false := by rw [Bool.eq_false_iff]; simpa using hok
                  have CB := hide (fun W => show Calls Try.prog 56 #[.int .i64 (m.t.Z i c), .int .i64 0, .int .i64 (size - 1)] W fun e w' => e = .returned (.bool false) ∧ w' = W from by rw [← hb]; exact between_any _ _ _ W)
                  have hfin := hide (show Alg.check ⟨size, B.t, E.t⟩ = 5 by rw [hck2.out]; simp [Tab.routes_false (s := size) hlt2 hcl (by omega)])
                  clear hok hb
                  go_wp2_with fail
                  go_quiet ((go_at_call 56; exact Calls.quiet_of_same (CB.out _)))
                  go_wp2
                  go_ret
                  exact ⟨by rw [hfin.out]; rfl, below_drewN hBw.out _⟩
              · have hfin : ∀ r, r < i + 1 → ∀ c, c < m.t.L r → 0 ≤ m.t.Z r c ∧ m.t.Z r c < size := fun r hr => by
                  by_cases e : r = i
                  · subst e; intro c' hc'; exact Hrow.out c' (by have := hLi.out; omega)
                  · exact Hall.out r (by omega)
                have Hfin := hide hfin
                clear hfin
                go_wp2
                go_roundw
                case rel => exact ⟨i + 1, by omega, by go_num, Hfin, HBr⟩
                case measure => simp [intOf]; omega
          · have hfin := hide (show Alg.check ⟨size, B.t, E.t⟩ = 0 by rw [hck2.out]; simp [(m.t.routes_iff size).2 (fun r hr => Hall.out r (by omega))])
            have hBw := hide (HB.out.trans (HBr.out.mono HB.out.size))
            go_wp2
            go_ret
            exact ⟨by rw [hfin.out]; rfl, hBw.out⟩

set_option maxHeartbeats 1000000 in
theorem refCheck_any (a : AlgM) (w : World) (h : a.In w.heap.size w) :
    Calls Try.prog 18 #[a.val] w fun e w' => e = .returned (.int .i64 a.alg.check) ∧ Below w.heap.size w w' := by
  have hb0 : ∀ o, Below w.heap.size w (w.alloc o) := fun o => (Below.refl _ _).alloc (Nat.le_refl _) _
  by_cases h1 : 2 ≤ a.size ∧ a.size ≤ 24
  · by_cases h3 : a.E.t.len ≤ 8
    · by_cases h4 : (a.B.t.len : Int) = a.size
      · exact refCheck_small a w h h1.1 h1.2 h3 h4
      · obtain ⟨g1, g2⟩ := h1
        have hBl := h.B.len
        unfold maxLen at hBl
        have hfin := hide (show a.alg.check = 1 by simp [Alg.check, Alg.formOk, AlgM.alg, h4]; omega)
        have h3' : (a.E.t.len : Int) ≤ 8 := by omega
        have h4' : ((a.B.t.len : Int) != a.size) = true := by simp [h4]
        have H4 := hide h4
        clear h4
        simp only [AlgM.val, Mat.val]
        go_enter Try.func18, Try.ntmps18
        go_wp2_with (go_at_call 56; refine (between_any _ _ _ _).mono ?_; rintro e w' ⟨rfl, rfl⟩)
        go_ret
        exact ⟨by rw [hfin.out]; rfl, hb0 _⟩
    · obtain ⟨g1, g2⟩ := h1
      have hEl := h.E.len
      unfold maxLen at hEl
      have hfin := hide (show a.alg.check = 2 by simp [Alg.check, AlgM.alg]; omega)
      have h3' : 8 < (a.E.t.len : Int) := by omega
      simp only [AlgM.val, Mat.val]
      go_enter Try.func18, Try.ntmps18
      go_wp2_with (go_at_call 56; refine (between_any _ _ _ _).mono ?_; rintro e w' ⟨rfl, rfl⟩)
      go_ret
      exact ⟨by rw [hfin.out]; rfl, hb0 _⟩
  · have hfin := hide (show a.alg.check = 3 by simp [Alg.check, AlgM.alg]; omega)
    have hb : (decide (2 ≤ a.size) && decide (a.size ≤ 24)) = false := by rw [Bool.eq_false_iff]; simpa using h1
    have CB := hide (fun W => show Calls Try.prog 56 #[.int .i64 a.size, .int .i64 2, .int .i64 24] W fun e w' => e = .returned (.bool false) ∧ w' = W from by rw [← hb]; exact between_any _ _ _ W)
    clear hb h1
    simp only [AlgM.val]
    go_enter Try.func18, Try.ntmps18
    go_wp2_with (go_at_call 56; refine (CB.out _).mono ?_; rintro e w' ⟨rfl, rfl⟩)
    go_ret
    exact ⟨by rw [hfin.out]; rfl, hb0 _⟩

end Go.Proofs.Ytjhkadffaephmaa
