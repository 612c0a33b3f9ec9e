/-
  Our own texts, bundled: a claim holds few files.
-/
import Derived.Test.YtjhkadffaephmabGreatCutEnginePlaysAI
import Derived.Deep.CutRange
import Derived.Test.YtjhkadffaephmabGreatCutEnginePlaysAD
import Derived.Test.YtjhkadffaephmabGreatCutEnginePlaysBA
import Derived.Test.YtjhkadffaephmabGreatCutEnginePlaysAE
import Derived.Test.YtjhkadffaephmabGreatCutEnginePlaysAH
/-
  signpostref.CheckAlgebra: the walk.
-/
namespace Go.Proofs.YtjhkadffaephmabGreat
set_option maxRecDepth 100000
open Go.RowKit

theorem Alg.check_small {a : Alg} (h1 : 2 ≤ a.size) (h2 : a.size ≤ 24) (h3 : a.E.len ≤ 8) (h4 : (a.B.len : Int) = a.size) :
    a.check = if (a.B.append a.E).wide a.size = false then 1 else if (a.B.append a.E).routes a.size = false then 5 else 0 := by
  rw [Tab.append_wide, Tab.append_routes]
  unfold Alg.check Alg.formOk Alg.routesOk
  rw [if_neg (by omega), if_neg (by omega)]
  simp [h4]

set_option maxHeartbeats 4000000 in
theorem refCheck_small (a : AlgM) (w : World) (h : a.In w.heap.size w) (h1 : 2 ≤ a.size) (h2 : a.size ≤ 24) (h3 : a.E.t.len ≤ 8) (h4 : (a.B.t.len : Int) = a.size) :
    Calls Tryz.prog 22 #[a.val] w fun e w' => e = .returned (.int .i64 a.alg.check) ∧ Below w.heap.size w w' := by
  have Hck := hide (Alg.check_small (a := a.alg) h1 h2 h3 h4)
  have H4 := hide h4
  have h3' : (a.E.t.len : Int) ≤ 8 := by omega
  have h4' : ((a.B.t.len : Int) != a.size) = false := by simp [h4]
  have hbl : a.B.t.len ≤ 24 := by omega
  have hEl := h.E.len
  have hBl := h.B.len
  unfold maxLen at hEl hBl
  have hb0 : ∀ o, Below w.heap.size w (w.alloc o) := fun o => (Below.refl _ _).alloc (Nat.le_refl _) _
  clear h4
  obtain ⟨size, B, E⟩ := a
  simp only [AlgM.val, AlgM.alg] at *
  have hBv : B.val = .slice B.ga B.t.len B.cap := rfl
  have hEv : E.val = .slice E.ga E.t.len E.cap := rfl
  rw [hBv, hEv]
  have HBv := hide hBv
  have HEv := hide hEv
  clear hBv hEv
  go_enter Tryz.func22, Tryz.ntmps22
  go_wp2_with (go_at_call 24; refine (between_any _ _ _ _).mono ?_; rintro e w' ⟨rfl, rfl⟩)
  have hI1 := h.below (((hb0 (.cells #[.int .i64 size, .slice B.ga B.t.len B.cap, .slice E.ga E.t.len E.cap] 24)).alloc (by simp) (.cells #[] 32)).trans (Below.mono (below_dr _) (by simp; omega))) (Nat.le_refl _)
  have bA0 : Blk ((w.alloc (.cells #[.int .i64 size, .slice B.ga B.t.len B.cap, .slice E.ga E.t.len E.cap] 24)).alloc (.cells #[] 32)).drew w.heap.size #[.int .i64 size, .slice B.ga B.t.len B.cap, .slice E.ga E.t.len E.cap] 24 := (Blk.new w _ _).alloc _
  have hB0 := (((hb0 (.cells #[.int .i64 size, .slice B.ga B.t.len B.cap, .slice E.ga E.t.len E.cap] 24)).alloc (by simp) (.cells #[] 32)).trans (Below.mono (below_dr _) (by simp; omega)))
  have hsz0 : ((w.alloc (.cells #[.int .i64 size, .slice B.ga B.t.len B.cap, .slice E.ga E.t.len E.cap] 24)).alloc (.cells #[] 32)).drew.heap.size = w.heap.size + 2 := by
    show ((w.alloc (.cells #[.int .i64 size, .slice B.ga B.t.len B.cap, .slice E.ga E.t.len E.cap] 24)).alloc (.cells #[] 32)).heap.size = _
    simp
  have hown0 : World.ownsRow ((w.alloc (.cells #[.int .i64 size, .slice B.ga B.t.len B.cap, .slice E.ga E.t.len E.cap] 24)).alloc (.cells #[] 32)).drew (w.heap.size + 1) 32 1 (.slice (some ⟨w.heap.size + 1, 0, none⟩) 0 0) 0 [] := by
    have := World.ownsRow_made (w.alloc (.cells #[.int .i64 size, .slice B.ga B.t.len B.cap, .slice E.ga E.t.len E.cap] 24)) #[] 0 (base := w.heap.size + 1) (e := 32) (size := 1) (by simp) (Nat.zero_le _) (by simp)
    simp only [World.size_alloc] at this
    exact this
  obtain ⟨g1, c1, W1, hrun1, hown1, hgr1⟩ := append_mat _ (w.heap.size + 1) w.heap.size (w.heap.size + 1) 0 0 [] hown0 B hI1.B (by rw [hsz0]; omega) (by omega) 22
  have hW1 : Below (w.heap.size + 1) _ W1 := (Below.refl _ _).grown hgr1 (by rw [hsz0]; omega) (fun k e => by cases e; exact Nat.le_refl _)
  have bA1 := bA0.below hW1 (by omega)
  have hI2 := hI1.below hW1 (by omega)
  have hsz1 := hW1.size
  rw [hsz0] at hsz1
  simp only [Nat.zero_add, List.nil_append] at hrun1 hown1
  obtain ⟨g2, c2, W2, hrun2, hown2, hgr2⟩ := append_mat _ (w.heap.size + 1) w.heap.size g1 c1 B.t.len B.rows hown1 E hI2.E (by omega) (by omega) 22
  have hg1 := (hown1.lt g1 rfl).1
  have hW2 : Below (w.heap.size + 1) W1 W2 := (Below.refl _ _).grown hgr2 (by omega) (fun k e => by cases e; exact hg1)
  have bA2 := bA1.below hW2 (by omega)
  have hI3 := hI2.below hW2 (by omega)
  have hsz2 := hW2.size
  have hBW2 := hB0.trans ((hW1.trans hW2).mono (by omega))
  obtain ⟨m, hmv, hmI, hmt⟩ := all_mat hown2 hI3.B hI3.E (by omega) (by omega)
  have Hm := hide (show ∃ m : Mat, Value.slice (some ⟨g2, 0, none⟩) (B.t.len + E.t.len) c2 = .slice m.ga m.t.len m.cap ∧ Hid (m.In W2.heap.size W2) ∧ Hid (m.t = B.t.append E.t) ∧ Hid (Blk W2 w.heap.size #[.int .i64 size, .slice B.ga B.t.len B.cap, .slice E.ga E.t.len E.cap] 24) ∧ Hid (Below w.heap.size w W2) from ⟨m, hmv.symm, hmI, hmt, bA2, hBW2⟩)
  rw [HBv.out] at hrun1
  rw [HEv.out] at hrun2
  have d0 := bA1.cell 0
  have d1 := bA1.cell 1
  have d2 := bA1.cell 2
  simp at d0 d1 d2
  have R1 := hide hrun1
  have R2 := hide hrun2
  clear hmv hmI hmt m hBW2 hsz2 hI3 bA2 hW2 hg1 hgr2 hown2 hrun2 hrun1 hsz1 hI2 bA1 hW1 hgr1 hown1 hown0 hsz0 hB0 bA0 hI1
  go_cut [3] from 21 to 27 (fun s3 wx => ∃ m : Mat, s3 = .slice m.ga m.t.len m.cap ∧ Hid (m.In wx.heap.size wx) ∧ Hid (m.t = B.t.append E.t) ∧ Hid (Blk wx w.heap.size #[.int .i64 size, .slice B.ga B.t.len B.cap, .slice E.ga E.t.len E.cap] 24) ∧ Hid (Below w.heap.size w wx))
  case first =>
    go_region_law (first
      | (refine step_append_run rfl (.tmp 21) (.tmp 23) 22 rfl _ _ (by simp [Act.eval]) (by simp [Act.eval]) _ _ R1.out ?_)
      | (refine step_append_run rfl (.tmp 24) (.tmp 26) 22 rfl _ _ (by simp [Act.eval]) (by simp [Act.eval]) _ _ R2.out ?_))
    all_goals
      go_wp2_with fail
      go_meet
      exact Hm.out
  case rest =>
    obtain ⟨m, rfl, HI, HT, HA, HB⟩ := hcut
    clear Hm R1 R2 d0 d1 d2 HBv HEv hb0
    have hml := HI.out.len
    unfold maxLen at hml
    have hmn : Hid (m.t.len ≤ 32) := hide (by rw [HT.out]; show B.t.len + E.t.len ≤ 32; omega)
    have hck : Hid (Alg.check ⟨size, B.t, E.t⟩ = if m.t.wide size = false then 1 else if m.t.routes size = false then 5 else 0) := hide (by rw [HT.out]; exact Hck.out)
    clear Hck
    go_wp2
    go_loopw [4] (fun i wr => ∃ k : Nat, k ≤ m.t.len ∧ i = .int .i64 k ∧ Hid (∀ r, r < k → (m.t.L r : Int) = size) ∧ Hid (Below wc.heap.size wc wr)) (fun i _ => m.t.len - (intOf i).toNat)
    case atStart => exact ⟨0, Nat.zero_le _, rfl, hide (fun r hr => absurd hr (Nat.not_lt_zero _)), hide (Below.refl _ _)⟩
    case round =>
      obtain ⟨k, hk, rfl, Hall, HBr⟩ := hrel
      have bA3 := HA.out.below HBr.out HA.out.lt
      have c0 := bA3.cell 0
      simp at c0
      have hBw := hide (HB.out.trans (HBr.out.mono HB.out.size))
      by_cases hlt : k < m.t.len
      · have hI3 := HI.out.below HBr.out (Nat.le_refl _)
        have hga := HI.out.ga (by omega)
        have hrow := hI3.row k hlt
        have hlens := HI.out.lens k hlt
        unfold maxLen at hlens
        have hkz : (k : Int) < (m.t.len : Int) := by omega
        clear hI3
        by_cases he : (m.t.L k : Int) = size
        · have he' : ((m.t.L k : Int) != size) = false := by simp [he]
          have He := hide he
          clear he
          go_wp2_with fail
          go_quiet (fail)
          go_wp2
          go_roundw
          case rel => exact ⟨k + 1, by omega, by go_num, hide (fun r hr => by
            by_cases e : r = k
            · subst e; exact He.out
            · exact Hall.out r (by omega)), hide (below_drewN HBr.out _)⟩
          case measure => simp [intOf]; omega
        · have he' : ((m.t.L k : Int) != size) = true := by simp [he]
          have hfin := hide (show Alg.check ⟨size, B.t, E.t⟩ = 1 by rw [hck.out]; simp [Tab.wide_false hlt he])
          clear he
          go_wp2_with fail
          go_quiet (fail)
          go_wp2
          go_ret
          exact ⟨by rw [hfin.out]; rfl, below_drewN hBw.out _⟩
      · have hwide : m.t.wide size = true := (m.t.wide_iff size).2 (fun r hr => Hall.out r (by omega))
        have hck2 : Hid (Alg.check ⟨size, B.t, E.t⟩ = if m.t.routes size = false then 5 else 0) := hide (by rw [hck.out, hwide]; rfl)
        have HW := hide hwide
        clear hwide
        go_wp2
        go_loopw [5, 6] (fun i _ wr => ∃ k : Nat, k ≤ m.t.len ∧ i = .int .i64 k ∧ Hid (∀ r, r < k → ∀ c, c < m.t.L r → 0 ≤ m.t.Z r c ∧ m.t.Z r c < size) ∧ Hid (Below wc.heap.size wc wr)) (fun i _ _ => m.t.len - (intOf i).toNat)
        case atStart => exact ⟨0, Nat.zero_le _, rfl, hide (fun r hr => absurd hr (Nat.not_lt_zero _)), HBr⟩
        case round =>
          clear Hall bA3 c0 hBw HBr
          obtain ⟨i, hi, rfl, Hall, HBr⟩ := hrel
          by_cases hlt2 : i < m.t.len
          · have hga := HI.out.ga (by omega)
            have hlens := HI.out.lens i hlt2
            unfold maxLen at hlens
            have hLi : Hid ((m.t.L i : Int) = size) := hide ((m.t.wide_iff size).1 HW.out i hlt2)
            have hkz : (i : Int) < (m.t.len : Int) := by omega
            go_wp2
            go_loopw [6] (fun j wr => ∃ c : Nat, (c : Int) ≤ size ∧ j = .int .i64 c ∧ Hid (∀ c', c' < c → 0 ≤ m.t.Z i c' ∧ m.t.Z i c' < size) ∧ Hid (Below wc.heap.size wc wr)) (fun j _ => size.toNat - (intOf j).toNat)
            case atStart => exact ⟨0, by omega, rfl, hide (fun r hr => absurd hr (Nat.not_lt_zero _)), HBr⟩
            case round =>
              clear HBr
              obtain ⟨c, hc, rfl, Hrow, HBr⟩ := hrel
              have bA3 := HA.out.below HBr.out HA.out.lt
              have c0 := bA3.cell 0
              simp at c0
              have hBw := hide (HB.out.trans (HBr.out.mono HB.out.size))
              by_cases hcs : (c : Int) < size
              · have hI3 := HI.out.below HBr.out (Nat.le_refl _)
                have hcl : c < m.t.L i := by have := hLi.out; omega
                have hrow := hI3.row i hlt2
                have hA := (HI.out.addr i hlt2 (by omega)).1
                rw [hA] at hrow
                have hcell := hI3.cell i hlt2 c hcl
                have hcz : (c : Int) < (m.t.L i : Int) := by omega
                clear hI3 hA
                by_cases hok : 0 ≤ m.t.Z i c ∧ m.t.Z i c ≤ size - 1
                · have hb : (decide (0 ≤ m.t.Z i c) && decide (m.t.Z i c ≤ size - 1)) = true := by simp [hok]
                  have CB := hide (fun W => show Calls Tryz.prog 24 #[.int .i64 (m.t.Z i c), .int .i64 0, .int .i64 (size - 1)] W fun e w' => e = .returned (.bool true) ∧ w' = W from by rw [← hb]; exact between_any _ _ _ W)
                  have Hok := hide hok
                  clear hok hb
                  go_wp2_with fail
                  go_quiet ((go_at_call 24; exact Calls.quiet_of_same (CB.out _)))
                  go_wp2
                  go_roundw
                  case rel => exact ⟨c + 1, by omega, by go_num, hide (fun c' hc' => by
                    by_cases e : c' = c
                    · subst e; have := Hok.out; omega
                    · exact Hrow.out c' (by omega)), hide (below_drewN HBr.out _)⟩
                  case measure => simp [intOf]; omega
                · have hb : (decide (0 ≤ m.t.Z i c) && decide (m.t.Z i c ≤ size - 1)) = false := by rw [Bool.eq_false_iff]; simpa using hok
                  have CB := hide (fun W => show Calls Tryz.prog 24 #[.int .i64 (m.t.Z i c), .int .i64 0, .int .i64 (size - 1)] W fun e w' => e = .returned (.bool false) ∧ w' = W from by rw [← hb]; exact between_any _ _ _ W)
                  have hfin := hide (show Alg.check ⟨size, B.t, E.t⟩ = 5 by rw [hck2.out]; simp [Tab.routes_false (s := size) hlt2 hcl (by omega)])
                  clear hok hb
                  go_wp2_with fail
                  go_quiet ((go_at_call 24; exact Calls.quiet_of_same (CB.out _)))
                  go_wp2
                  go_ret
                  exact ⟨by rw [hfin.out]; rfl, below_drewN hBw.out _⟩
              · have hfin : ∀ r, r < i + 1 → ∀ c, c < m.t.L r → 0 ≤ m.t.Z r c ∧ m.t.Z r c < size := fun r hr => by
                  by_cases e : r = i
                  · subst e; intro c' hc'; exact Hrow.out c' (by have := hLi.out; omega)
                  · exact Hall.out r (by omega)
                have Hfin := hide hfin
                clear hfin
                go_wp2
                go_roundw
                case rel => exact ⟨i + 1, by omega, by go_num, Hfin, HBr⟩
                case measure => simp [intOf]; omega
          · have hfin := hide (show Alg.check ⟨size, B.t, E.t⟩ = 0 by rw [hck2.out]; simp [(m.t.routes_iff size).2 (fun r hr => Hall.out r (by omega))])
            have hBw := hide (HB.out.trans (HBr.out.mono HB.out.size))
            go_wp2
            go_ret
            exact ⟨by rw [hfin.out]; rfl, hBw.out⟩

set_option maxHeartbeats 1000000 in
theorem refCheck_any (a : AlgM) (w : World) (h : a.In w.heap.size w) :
    Calls Tryz.prog 22 #[a.val] w fun e w' => e = .returned (.int .i64 a.alg.check) ∧ Below w.heap.size w w' := by
  have hb0 : ∀ o, Below w.heap.size w (w.alloc o) := fun o => (Below.refl _ _).alloc (Nat.le_refl _) _
  by_cases h1 : 2 ≤ a.size ∧ a.size ≤ 24
  · by_cases h3 : a.E.t.len ≤ 8
    · by_cases h4 : (a.B.t.len : Int) = a.size
      · exact refCheck_small a w h h1.1 h1.2 h3 h4
      · obtain ⟨g1, g2⟩ := h1
        have hBl := h.B.len
        unfold maxLen at hBl
        have hfin := hide (show a.alg.check = 1 by simp [Alg.check, Alg.formOk, AlgM.alg, h4]; omega)
        have h3' : (a.E.t.len : Int) ≤ 8 := by omega
        have h4' : ((a.B.t.len : Int) != a.size) = true := by simp [h4]
        have H4 := hide h4
        clear h4
        simp only [AlgM.val, Mat.val]
        go_enter Tryz.func22, Tryz.ntmps22
        go_wp2_with (go_at_call 24; refine (between_any _ _ _ _).mono ?_; rintro e w' ⟨rfl, rfl⟩)
        go_ret
        exact ⟨by rw [hfin.out]; rfl, hb0 _⟩
    · obtain ⟨g1, g2⟩ := h1
      have hEl := h.E.len
      unfold maxLen at hEl
      have hfin := hide (show a.alg.check = 2 by simp [Alg.check, AlgM.alg]; omega)
      have h3' : 8 < (a.E.t.len : Int) := by omega
      simp only [AlgM.val, Mat.val]
      go_enter Tryz.func22, Tryz.ntmps22
      go_wp2_with (go_at_call 24; refine (between_any _ _ _ _).mono ?_; rintro e w' ⟨rfl, rfl⟩)
      go_ret
      exact ⟨by rw [hfin.out]; rfl, hb0 _⟩
  · have hfin := hide (show a.alg.check = 3 by simp [Alg.check, AlgM.alg]; omega)
    have hb : (decide (2 ≤ a.size) && decide (a.size ≤ 24)) = false := by rw [Bool.eq_false_iff]; simpa using h1
    have CB := hide (fun W => show Calls Tryz.prog 24 #[.int .i64 a.size, .int .i64 2, .int .i64 24] W fun e w' => e = .returned (.bool false) ∧ w' = W from by rw [← hb]; exact between_any _ _ _ W)
    clear hb h1
    simp only [AlgM.val]
    go_enter Tryz.func22, Tryz.ntmps22
    go_wp2_with (go_at_call 24; refine (CB.out _).mono ?_; rintro e w' ⟨rfl, rfl⟩)
    go_ret
    exact ⟨by rw [hfin.out]; rfl, hb0 _⟩

end Go.Proofs.YtjhkadffaephmabGreat

/-
  signpostref.IsLawful, IsNode, EdgeOf, CheckNet, RowsOf, FitOf.
-/
namespace Go.Proofs.YtjhkadffaephmabGreat
set_option maxRecDepth 100000
open Go.RowKit

theorem between_q (n l m : Int) (w : World) :
    Calls Tryz.prog 24 #[.int .i64 n, .int .i64 l, .int .i64 m] w fun e w' => e = .returned (.bool (decide (l ≤ n) && decide (n ≤ m))) ∧ ∃ q, w' = w.drewN q :=
  (between_any n l m w).mono (fun _ _ ⟨h1, h2⟩ => ⟨h1, 0, h2⟩)

set_option maxHeartbeats 1000000 in
theorem refAll_any (w : World) :
    Calls Tryz.prog 51 #[] w fun e w' => e = .returned (.slice (some ⟨w.heap.size, 0, none⟩) 7 7) ∧ w' = w.alloc (.cells #[.int .i64 1, .int .i64 2, .int .i64 3, .int .i64 4, .int .i64 5, .int .i64 6, .int .i64 7] 3) := by
  go_enter Tryz.func51, Tryz.ntmps51
  go_wp2
  go_ret
  exact ⟨rfl, rfl⟩

/-- What stands all through IsLawful's region. -/
structure LawG (w : World) (a : AlgM) (W : World) : Prop where
  below : Below w.heap.size w W
  blk : Blk W w.heap.size #[.int .i64 a.size, a.B.val, a.E.val] 24
def LawE (a : AlgM) (i : Nat) (v : Value) (W : World) : Prop :=
  match i with
  | 0 => v = a.val
  | 1 => ∃ b, v = .slice (some ⟨b, 0, none⟩) 7 7 ∧ Blk W b #[.int .i64 1, .int .i64 2, .int .i64 3, .int .i64 4, .int .i64 5, .int .i64 6, .int .i64 7] 3
  | 2 => v = (a.alg.firstOf [1, 2, 3, 4, 5, 6, 7]).val
  | 3 => v = .int .i64 (a.alg.firstOf [1, 2, 3, 4, 5, 6, 7]).law
  | _ => v = .bool ((a.alg.firstOf [1, 2, 3, 4, 5, 6, 7]).law == 0)
theorem LawG.keep {w : World} {a : AlgM} {W W' : World} (h : LawG w a W) (hb : Below W.heap.size W W') : LawG w a W' := ⟨h.below.trans (hb.mono h.below.size), h.blk.below hb h.blk.lt⟩
theorem LawE.keep {a : AlgM} {W W' : World} (hb : Below W.heap.size W W') (i : Nat) (v : Value) (h : LawE a i v W) : LawE a i v W' := by
  unfold LawE at *
  split at h
  all_goals first | exact h | skip
  obtain ⟨b, h1, h2⟩ := h
  exact ⟨b, h1, h2.below hb h2.lt⟩

set_option maxHeartbeats 2000000 in
theorem isLawful_any (a : AlgM) (w : World) (h : a.In w.heap.size w) (hc : a.alg.check = 0) :
    Calls Tryz.prog 23 #[a.val] w fun e w' => e = .returned (.bool ((a.alg.tell [1, 2, 3, 4, 5, 6, 7]).law == 0)) ∧ Below w.heap.size w w' := by
  have ht : a.alg.tell [1, 2, 3, 4, 5, 6, 7] = a.alg.firstOf [1, 2, 3, 4, 5, 6, 7] := by unfold Alg.tell; rw [if_pos hc]
  rw [ht]
  have g := Alg.good_of_check hc
  have hB0 : Below w.heap.size w (w.alloc (.cells #[.int .i64 a.size, a.B.val, a.E.val] 24)) := (Below.refl _ w).alloc (Nat.le_refl _) _
  have b0 := Blk.new w #[.int .i64 a.size, a.B.val, a.E.val] 24
  have HF := hide (fun W (hb : Below w.heap.size w W) b (hbk : Blk W b #[.int .i64 1, .int .i64 2, .int .i64 3, .int .i64 4, .int .i64 5, .int .i64 6, .int .i64 7] 3) => refFirst_any a g [1, 2, 3, 4, 5, 6, 7] (by decide) (by decide) b W ((h.below hb (Nat.le_refl _)).mono hb.size) hbk.lt (fun i hi => by
    rw [hbk.cell i]
    match i, hi with
    | 0, _ => rfl
    | 1, _ => rfl
    | 2, _ => rfl
    | 3, _ => rfl
    | 4, _ => rfl
    | 5, _ => rfl
    | 6, _ => rfl))
  clear ht g hc h
  simp only [AlgM.val] at HF ⊢
  go_enter Tryz.func23, Tryz.ntmps23
  go_wp2_with fail
  refine wp_region_each (LawG w a) (LawE a) (by kernel_rfl) (by kernel_rfl) (by kernel_rfl) ⟨below_drewN hB0 1, b0.drewN 1⟩ ⟨?_, ?_, ?_, ?_, ?_, ?_, trivial⟩ ?_
  all_goals clear hB0 b0
  rotate_right
  · intro t W hG hE
    have e4 : t 4 = .bool ((a.alg.firstOf [1, 2, 3, 4, 5, 6, 7]).law == 0) := hE 4 (by decide)
    have e5 : t 5 = .bool ((a.alg.firstOf [1, 2, 3, 4, 5, 6, 7]).law == 0) := hE 5 (by decide)
    have hGb := hG.below
    clear hE hG
    simp only [fill, Act.put, List.setIfInBounds_toArray, List.set_cons_zero, List.set_cons_succ, e4, e5]
    go_wp2
    go_ret
    exact ⟨rfl, hGb⟩
  all_goals intro t W hG hp K hK
  all_goals simp only [fill, Act.put, List.setIfInBounds_toArray, List.set_cons_zero, List.set_cons_succ] at hK ⊢
  all_goals rw [if_pos (by rfl)]
  · have c0 := hG.blk.cell 0
    have c1 := hG.blk.cell 1
    have c2 := hG.blk.cell 2
    simp at c0 c1 c2
    go_simp
    exact hK _ W hG rfl (fun _ _ _ h => h)
  · go_simp
    go_at_call 51
    refine (refAll_any W).mono ?_
    rintro e W' ⟨rfl, rfl⟩
    have hb : Below W.heap.size W (W.alloc (.cells #[.int .i64 1, .int .i64 2, .int .i64 3, .int .i64 4, .int .i64 5, .int .i64 6, .int .i64 7] 3)) := (Below.refl _ W).alloc (Nat.le_refl _) _
    go_simp
    exact hK _ _ (hG.keep hb) ⟨W.heap.size, rfl, Blk.new W _ _⟩ (fun j u _ => LawE.keep hb j u)
  · have e0 : t 0 = a.val := hp 0 (by decide)
    obtain ⟨b, e1, hb⟩ := hp 1 (by decide)
    rw [AlgM.val] at e0
    simp only [e0, e1] at hK ⊢
    go_simp
    go_at_call 50
    refine (HF.out W hG.below b hb).mono ?_
    rintro e W' ⟨rfl, hb'⟩
    go_simp
    exact hK _ _ (hG.keep hb') rfl (fun j u _ => LawE.keep hb' j u)
  · have e2 : t 2 = (a.alg.firstOf [1, 2, 3, 4, 5, 6, 7]).val := hp 2 (by decide)
    rw [Brk.val] at e2
    simp only [e2] at hK ⊢
    go_simp
    exact hK _ W hG rfl (fun _ _ _ h => h)
  · have e3 : t 3 = .int .i64 (a.alg.firstOf [1, 2, 3, 4, 5, 6, 7]).law := hp 3 (by decide)
    simp only [e3] at hK ⊢
    go_simp
    exact hK _ W hG rfl (fun _ _ _ h => h)
  · have e4 : t 4 = .bool ((a.alg.firstOf [1, 2, 3, 4, 5, 6, 7]).law == 0) := hp 4 (by decide)
    simp only [e4] at hK ⊢
    go_simp
    exact hK _ W hG rfl (fun _ _ _ h => h)

set_option maxHeartbeats 1000000 in
theorem isNode_any (n : NetM) (i : Int) (w : World) (h1 : 1 ≤ n.nodes) (h6 : n.nodes ≤ 6) :
    Calls Tryz.prog 25 #[n.val, .int .i64 i] w fun e w' => e = .returned (.bool (decide (0 ≤ i) && decide (i ≤ n.nodes - 1))) ∧ w' = w.alloc (.cells n.cells 27) := by
  simp only [NetM.val, NetM.cells, Mat.val]
  go_enter Tryz.func25, Tryz.ntmps25
  go_wp2_with fail
  go_at_call 24
  refine (between_any _ _ _ _).mono ?_
  rintro e w' ⟨rfl, rfl⟩
  go_wp2
  go_ret
  exact ⟨rfl, rfl⟩

theorem Net.edge_at {n : Net} {i k : Int} {l : Nat} (hl : l < n.ln) (h0 : ∀ j, j < l → ¬ (n.F j = i ∧ n.T j = k)) (h1 : n.F l = i) (h2 : n.T l = k) : n.edge i k = n.E l := by
  unfold Net.edge
  have : (List.range n.ln).find? (fun l => n.F l == i && n.T l == k) = some l := by
    rw [List.find?_range_eq_some]
    refine ⟨by simp [h1, h2], by simpa using hl, fun j hj => ?_⟩
    have := h0 j hj
    simp only [Bool.not_eq_true', Bool.and_eq_false_iff, beq_eq_false_iff_ne]
    exact Classical.byContradiction fun hc => this ⟨Classical.byContradiction fun e => hc (Or.inl e), Classical.byContradiction fun e => hc (Or.inr e)⟩
  rw [this]
  rfl
theorem Net.edge_no {n : Net} {i k : Int} (h0 : ∀ j, j < n.ln → ¬ (n.F j = i ∧ n.T j = k)) : n.edge i k = -1 := by
  unfold Net.edge
  have : (List.range n.ln).find? (fun l => n.F l == i && n.T l == k) = none := by
    rw [List.find?_eq_none]
    intro j hj hx
    simp at hj hx
    exact h0 j hj hx
  rw [this]
  rfl

/-- None of the first l links goes from i to k. -/
def Net.noLink (n : Net) (i k : Int) (l : Nat) : Prop := ∀ j, j < l → ¬ (n.F j = i ∧ n.T j = k)

set_option maxHeartbeats 2000000 in
theorem edgeOf_any (n : NetM) (i k : Int) (w : World) (h : n.In w.heap.size w) :
    Calls Tryz.prog 30 #[n.val, .int .i64 i, .int .i64 k] w fun e w' => e = .returned (.int .i64 (n.net.edge i k)) ∧ w' = w.alloc (.cells n.cells 27) := by
  have hlen := h.len
  unfold maxLen at hlen
  have H := hide (fun o => h.below ((Below.refl _ w).alloc (Nat.le_refl _) o) (Nat.le_refl _))
  have HLa := hide h.la
  clear h
  simp only [NetM.val, NetM.cells, Mat.val] at *
  go_enter Tryz.func30, Tryz.ntmps30
  go_wp2
  go_loop [7] (fun q => ∃ l : Nat, l ≤ n.ln ∧ q = .int .i64 l ∧ Hid (n.net.noLink i k l)) (fun q => n.ln - (intOf q).toNat)
  case atStart => exact ⟨0, Nat.zero_le _, rfl, hide fun r hr => absurd hr (Nat.not_lt_zero _)⟩
  case round =>
    obtain ⟨l, hl, rfl, Hall⟩ := hrel
    by_cases hlt : l < n.ln
    · have hla := HLa.out (by omega)
      have c0 := fun o => (H.out o).f l hlt
      have c1 := fun o => (H.out o).t l hlt
      have c2 := fun o => (H.out o).e l hlt
      have hli : (l : Int) < (n.ln : Int) := by omega
      by_cases hF : n.F l = i
      · have hF' : (n.F l == i) = true := by simp [hF]
        by_cases hT : n.T l = k
        · have hT' : (n.T l == k) = true := by simp [hT]
          have hfin := hide (Net.edge_at (n := n.net) (i := i) (k := k) hlt Hall.out hF hT)
          clear hF hT
          go_wp2
          go_ret
          exact ⟨by rw [hfin.out]; rfl, rfl⟩
        · have hT' : (n.T l == k) = false := by simp [hT]
          have Hn : Hid (n.net.noLink i k (l + 1)) := hide (fun j hj => by
            by_cases e : j = l
            · subst e; exact fun hx => hT hx.2
            · exact Hall.out j (by omega))
          clear hF hT
          go_wp2
          go_round
          case rel =>
            first
            | exact ⟨l + 1, by omega, by go_num, Hn⟩
            | ((try rw [← hla]); (repeat apply Exists.intro); refine ⟨?_, rfl⟩; exact ⟨l + 1, by omega, by go_num, Hn⟩)
            | (rw [← hla]; refine ⟨trivial, ?_⟩; (repeat apply Exists.intro); refine ⟨?_, rfl⟩; exact ⟨l + 1, by omega, by go_num, Hn⟩)
          case measure => simp [intOf]; omega
      · have hF' : (n.F l == i) = false := by simp [hF]
        have Hn : Hid (n.net.noLink i k (l + 1)) := hide (fun j hj => by
          by_cases e : j = l
          · subst e; exact fun hx => hF hx.1
          · exact Hall.out j (by omega))
        clear hF
        go_wp2
        go_round
        case rel =>
          first
          | exact ⟨l + 1, by omega, by go_num, Hn⟩
          | ((try rw [← hla]); (repeat apply Exists.intro); refine ⟨?_, rfl⟩; exact ⟨l + 1, by omega, by go_num, Hn⟩)
          | (rw [← hla]; refine ⟨trivial, ?_⟩; (repeat apply Exists.intro); refine ⟨?_, rfl⟩; exact ⟨l + 1, by omega, by go_num, Hn⟩)
        case measure => simp [intOf]; omega
    · have hfin := hide (Net.edge_no (n := n.net) (i := i) (k := k) (fun j hj => Hall.out j (by have : j < n.ln := hj; omega)))
      have hli : (n.ln : Int) ≤ (l : Int) := by omega
      go_wp2
      go_ret
      exact ⟨by rw [hfin.out]; rfl, rfl⟩

theorem Net.linkErr_six {n : Net} {k : Nat} (h0 : ¬ ((n.F k < 0 ∨ n.nodes ≤ n.F k) ∨ (n.T k < 0 ∨ n.nodes ≤ n.T k) ∨ (n.E k < 0 ∨ (n.a.E.len : Int) ≤ n.E k))) (h1 : ¬ n.F k = n.T k) {j : Nat} (hj : j < k) (hF : n.F j = n.F k) (hT : n.T j = n.T k) : n.linkErr k = 6 := by
  unfold Net.linkErr
  rw [if_neg h0, if_neg h1, if_pos]
  unfold Net.twice
  rw [List.any_eq_true]
  exact ⟨j, by simpa using hj, by simp [hF, hT]⟩
theorem Net.linkErr_zero {n : Net} {k : Nat} (h0 : ¬ ((n.F k < 0 ∨ n.nodes ≤ n.F k) ∨ (n.T k < 0 ∨ n.nodes ≤ n.T k) ∨ (n.E k < 0 ∨ (n.a.E.len : Int) ≤ n.E k))) (h1 : ¬ n.F k = n.T k) (h2 : n.noLink (n.F k) (n.T k) k) : n.linkErr k = 0 := by
  unfold Net.linkErr
  rw [if_neg h0, if_neg h1, if_neg]
  unfold Net.twice
  intro hx
  rw [List.any_eq_true] at hx
  obtain ⟨j, hj, hx⟩ := hx
  simp at hj hx
  exact h2 j hj hx

set_option maxHeartbeats 4000000 in
theorem refNet_any (n : NetM) (w : World) (h : n.In w.heap.size w) :
    Calls Tryz.prog 7 #[n.val] w fun e w' => e = .returned (.int .i64 n.net.check) ∧ Below w.heap.size w w' := by
  have hlen := h.len
  unfold maxLen at hlen
  have hEl := h.a.E.len
  unfold maxLen at hEl
  have hB0 : Below w.heap.size w (w.alloc (.cells n.cells 27)) := (Below.refl _ w).alloc (Nat.le_refl _) _
  have b0 := Blk.new w n.cells 27
  have HC := hide (refCheck_any n.a _ ((h.a.below hB0 (Nat.le_refl _)).mono hB0.size))
  have HL := hide (fun W (hb : Below w.heap.size w W) (hc : n.a.alg.check = 0) => isLawful_any n.a W ((h.a.below hb (Nat.le_refl _)).mono hb.size) hc)
  have Hdef : Hid (n.net.check = if n.a.alg.check ≠ 0 then n.a.alg.check else if (n.a.alg.tell [1, 2, 3, 4, 5, 6, 7]).law ≠ 0 then 4
    else if n.nodes < 1 ∨ 6 < n.nodes then 3 else firstErr n.net.linkErr n.ln) := hide rfl
  have H := hide h
  generalize n.a.alg.tell [1, 2, 3, 4, 5, 6, 7] = fb at *
  generalize n.a.alg.check = ck at *
  clear h
  simp only [NetM.val, NetM.cells, AlgM.val, Mat.val] at HC HL b0 hB0 ⊢
  go_enter Tryz.func7, Tryz.ntmps7
  go_wp2_with fail
  go_at_call 22
  refine HC.out.mono ?_
  rintro e w1 ⟨rfl, hb1⟩
  have hB1 := hB0.trans (hb1.mono hB0.size)
  have b1 := b0.below hb1 b0.lt
  clear HC hB0 b0 hb1
  by_cases hc : ck = 0
  rotate_left
  · have hfin : Hid (n.net.check = ck) := hide (by rw [Hdef.out]; simp [hc])
    have hc' : (ck != 0) = true := by simp [hc]
    have HB := hide hB1
    clear Hdef hc HL hB1
    go_wp2
    go_ret
    exact ⟨by rw [hfin.out]; rfl, HB.out⟩
  subst hc
  have x0 := b1.cell 0
  have x1 := b1.cell 1
  have x2 := b1.cell 2
  simp at x0 x1 x2
  have HL1 := hide (HL.out w1 hB1 rfl)
  clear HL
  go_wp2_with fail
  go_at_call 23
  refine HL1.out.mono ?_
  rintro e w2 ⟨rfl, hb2⟩
  have hB2 := hB1.trans (hb2.mono hB1.size)
  have b2 := b1.below hb2 b1.lt
  clear HL1 hB1 b1 hb2 x0 x1 x2
  by_cases hl : fb.law = 0
  rotate_left
  · have hfin : Hid (n.net.check = 4) := hide (by rw [Hdef.out]; simp [hl])
    have hl' : (fb.law == 0) = false := by simp [hl]
    have HB := hide hB2
    clear Hdef hl hB2
    rw [hl']
    go_wp2
    go_ret
    exact ⟨by rw [hfin.out]; rfl, HB.out⟩
  have hl' : (fb.law == 0) = true := by simp [hl]
  rw [hl']
  have x3 := b2.cell 3
  simp at x3
  go_wp2_with fail
  go_at_call 24
  refine (between_any _ _ _ _).mono ?_
  rintro e w' ⟨rfl, e1⟩
  have e2 := e1.symm
  subst e2
  clear e1
  by_cases hn : 1 ≤ n.nodes ∧ n.nodes ≤ 6
  rotate_left
  · have hfin : Hid (n.net.check = 3) := hide (by
      rw [Hdef.out]
      have : n.nodes < 1 ∨ 6 < n.nodes := by omega
      simp [hl, this])
    have hn' : (decide (1 ≤ n.nodes) && decide (n.nodes ≤ 6)) = false := by simp; omega
    have HB := hide hB2
    clear Hdef hl hB2 hn
    rw [hn']
    go_wp2
    go_ret
    exact ⟨by rw [hfin.out]; rfl, HB.out⟩
  have hn' : (decide (1 ≤ n.nodes) && decide (n.nodes ≤ 6)) = true := by simp [hn]
  rw [hn']
  have Hd2 : Hid (n.net.check = firstErr n.net.linkErr n.ln) := hide (by
    rw [Hdef.out]
    have : ¬ (n.nodes < 1 ∨ 6 < n.nodes) := by omega
    simp [hl, this])
  obtain ⟨hn1, hn6⟩ := hn
  have HB2 := hide hB2
  have HN := hide (fun i W => isNode_any n i W hn1 hn6)
  simp only [NetM.val, NetM.cells, Mat.val] at HN
  clear Hdef hl hl' hn' hB2 x3
  go_wp2_with fail
  go_loopw [4, 5, 6] (fun q _ _ wr => ∃ k : Nat, k ≤ n.ln ∧ q = .int .i64 k ∧ Hid (∀ r, r < k → n.net.linkErr r = 0) ∧ Hid (Below w2.heap.size w2 wr)) (fun q _ _ _ => n.ln - (intOf q).toNat)
  case atStart => exact ⟨0, Nat.zero_le _, rfl, hide fun r hr => absurd hr (Nat.not_lt_zero _), hide (Below.refl _ _)⟩
  case round =>
    obtain ⟨k, hk, rfl, Hall, HB⟩ := hrel
    have hBw := HB2.out.trans (HB.out.mono HB2.out.size)
    have bN := b2.below HB.out b2.lt
    have x4 := bN.cell 4
    simp at x4
    by_cases hlt : k < n.ln
    · have hla := H.out.la (by omega)
      have hI := H.out.below hBw (Nat.le_refl _)
      have c0 := hI.f k hlt
      have c1 := hI.t k hlt
      have c2 := hI.e k hlt
      have hki : (k : Int) < (n.ln : Int) := by omega
      have Herr : Hid (n.net.linkErr k ≠ 0 → n.net.check = n.net.linkErr k) := hide (fun hne => Hd2.out.trans (firstErr_at hlt Hall.out hne))
      have n0 := fun o => (bN.alloc o).cell 0
      have n1 := fun o => (bN.alloc o).cell 1
      have n2 := fun o => (bN.alloc o).cell 2
      have n3 := fun o => (bN.alloc o).cell 3
      have n4 := fun o => (bN.alloc o).cell 4
      simp at n0 n1 n2 n3 n4
      have HBa := hide (HB.out.alloc HB.out.size (.cells #[.int .i64 (n.F k), .int .i64 (n.T k), .int .i64 (n.E k)] 65))
      have HBwa := hide (hBw.alloc hBw.size (.cells #[.int .i64 (n.F k), .int .i64 (n.T k), .int .i64 (n.E k)] 65))
      have bNa := bN.alloc (.cells #[.int .i64 (n.F k), .int .i64 (n.T k), .int .i64 (n.E k)] 65)
      have bL := Blk.new wr #[.int .i64 (n.F k), .int .i64 (n.T k), .int .i64 (n.E k)] 65
      have HNk := hide (fun i W => HN.out i W)
      rw [hla] at HNk
      clear hI hBw
      go_wp2_with fail
      go_at_call 25
      refine (HNk.out _ _).mono ?_
      rintro e w3 ⟨rfl, e1⟩
      have hb3 : Below (wr.alloc (.cells #[.int .i64 (n.F k), .int .i64 (n.T k), .int .i64 (n.E k)] 65)).heap.size (wr.alloc (.cells #[.int .i64 (n.F k), .int .i64 (n.T k), .int .i64 (n.E k)] 65)) w3 := by rw [e1]; exact (Below.refl _ _).alloc (Nat.le_refl _) _
      clear e1
      have HB3 := hide (HB.out.trans ((((Below.refl _ wr).alloc (Nat.le_refl _) _).trans (hb3.mono (by simp))).mono HB.out.size))
      have b3 := bNa.below hb3 bNa.lt
      have bL3 := bL.below hb3 bL.lt
      have x0 := b3.cell 0
      have x1 := b3.cell 1
      have x2 := b3.cell 2
      have x3 := b3.cell 3
      have x4 := b3.cell 4
      have l0 := bL3.cell 0
      have l1 := bL3.cell 1
      have l2 := bL3.cell 2
      simp at x0 x1 x2 x3 x4 l0 l1 l2
      clear n0 n1 n2 n3 n4 hb3 bNa bL HBa HBwa bN
      by_cases hF : 0 ≤ n.F k ∧ n.F k ≤ n.nodes - 1
      rotate_left
      · have hle : n.net.linkErr k = 5 := linkErr_none (Or.inl (by show n.F k < 0 ∨ n.nodes ≤ n.F k; omega))
        have hfin := hide ((Herr.out (by rw [hle]; decide)).trans hle)
        have hb : (decide (0 ≤ n.F k) && decide (n.F k ≤ n.nodes - 1)) = false := by simp; omega
        have HBf := hide (HB2.out.trans (HB3.out.mono HB2.out.size))
        rw [hb]
        clear hle hF hb
        go_wp2
        go_ret
        exact ⟨by rw [hfin.out]; rfl, HBf.out⟩
      have hb : (decide (0 ≤ n.F k) && decide (n.F k ≤ n.nodes - 1)) = true := by simp [hF]
      rw [hb]
      have HF := hide hF
      clear hb hF
      go_wp2_with fail
      go_at_call 25
      refine (HNk.out _ _).mono ?_
      rintro e w4 ⟨rfl, e1⟩
      have hb4 : Below w3.heap.size w3 w4 := by rw [e1]; exact (Below.refl _ _).alloc (Nat.le_refl _) _
      clear e1
      have HB4 := hide (HB3.out.trans (hb4.mono HB3.out.size))
      have b4 := b3.below hb4 b3.lt
      have bL4 := bL3.below hb4 bL3.lt
      clear x0 x1 x2 x3 x4 l0 l1 l2 hb4 b3 bL3 HB3
      have x2 := b4.cell 2
      have x4 := b4.cell 4
      have l0 := bL4.cell 0
      have l1 := bL4.cell 1
      have l2 := bL4.cell 2
      simp at x2 x4 l0 l1 l2
      by_cases hT : 0 ≤ n.T k ∧ n.T k ≤ n.nodes - 1
      rotate_left
      · have hle : n.net.linkErr k = 5 := linkErr_none (Or.inr (Or.inl (by show n.T k < 0 ∨ n.nodes ≤ n.T k; omega)))
        have hfin := hide ((Herr.out (by rw [hle]; decide)).trans hle)
        have hb : (decide (0 ≤ n.T k) && decide (n.T k ≤ n.nodes - 1)) = false := by simp; omega
        have HBf := hide (HB2.out.trans (HB4.out.mono HB2.out.size))
        rw [hb]
        clear hle hT hb
        go_wp2
        go_ret
        exact ⟨by rw [hfin.out]; rfl, HBf.out⟩
      have hb : (decide (0 ≤ n.T k) && decide (n.T k ≤ n.nodes - 1)) = true := by simp [hT]
      rw [hb]
      have HT := hide hT
      clear hb hT
      go_wp2_with fail
      go_at_call 24
      refine (between_any _ _ _ _).mono ?_
      rintro e w' ⟨rfl, e1⟩
      have e2 := e1.symm
      subst e2
      clear e1
      by_cases hE : 0 ≤ n.E k ∧ n.E k ≤ (n.a.E.t.len : Int) - 1
      rotate_left
      · have hle : n.net.linkErr k = 5 := linkErr_none (Or.inr (Or.inr (by show n.E k < 0 ∨ (n.a.E.t.len : Int) ≤ n.E k; omega)))
        have hfin := hide ((Herr.out (by rw [hle]; decide)).trans hle)
        have hb : (decide (0 ≤ n.E k) && decide (n.E k ≤ (n.a.E.t.len : Int) - 1)) = false := by simp; omega
        have HBf := hide (HB2.out.trans (HB4.out.mono HB2.out.size))
        rw [hb]
        clear hle hE hb
        go_wp2
        go_ret
        exact ⟨by rw [hfin.out]; rfl, HBf.out⟩
      have hb : (decide (0 ≤ n.E k) && decide (n.E k ≤ (n.a.E.t.len : Int) - 1)) = true := by simp [hE]
      rw [hb]
      have Hno : Hid (¬ ((n.net.F k < 0 ∨ n.net.nodes ≤ n.net.F k) ∨ (n.net.T k < 0 ∨ n.net.nodes ≤ n.net.T k) ∨ (n.net.E k < 0 ∨ (n.net.a.E.len : Int) ≤ n.net.E k))) := hide (by
        have h1 := HF.out
        have h2 := HT.out
        show ¬ ((n.F k < 0 ∨ n.nodes ≤ n.F k) ∨ (n.T k < 0 ∨ n.nodes ≤ n.T k) ∨ (n.E k < 0 ∨ (n.a.E.t.len : Int) ≤ n.E k))
        omega)
      clear hb hE
      by_cases hft : n.F k = n.T k
      · have hle : n.net.linkErr k = 1 := by unfold Net.linkErr; rw [if_neg Hno.out, if_pos (show n.net.F k = n.net.T k from hft)]
        have hfin := hide ((Herr.out (by rw [hle]; decide)).trans hle)
        have hft' : (n.F k == n.T k) = true := by simp [hft]
        have HBf := hide (HB2.out.trans (HB4.out.mono HB2.out.size))
        clear hft hle
        go_wp2
        go_ret
        exact ⟨by rw [hfin.out]; rfl, HBf.out⟩
      have hft' : (n.F k == n.T k) = false := by simp [hft]
      have Hft := hide hft
      clear hft
      go_wp2_with fail
      obtain ⟨wq, hwq⟩ : ∃ wq, wq = wr.heap.size := ⟨_, rfl⟩
      simp only [← hwq] at bL4 l0 l1 l2 ⊢
      clear hwq x2 HNk HN
      go_loopw [6] (fun q wr => ∃ j : Nat, j ≤ k ∧ q = .int .i64 j ∧ Hid (n.net.noLink (n.net.F k) (n.net.T k) j) ∧ Hid (∃ z, wr = w4.drewN z)) (fun q _ => k - (intOf q).toNat)
      case atStart => exact ⟨0, Nat.zero_le _, rfl, hide fun r hr => absurd hr (Nat.not_lt_zero _), hide ⟨0, rfl⟩⟩
      case round =>
        obtain ⟨j, hj, rfl, Hnl, HD⟩ := hrel
        by_cases hjl : j < k
        · have hI4 := H.out.below (HB2.out.trans (HB4.out.mono HB2.out.size)) (Nat.le_refl _)
          have d0 : wr.cell? ⟨n.lb, n.lo + j * 3, none⟩ = some (.int .i64 (n.F j)) := by obtain ⟨z, rfl⟩ := HD.out; exact hI4.f j (by omega)
          have d1 : wr.cell? ⟨n.lb, n.lo + j * 3 + 1, none⟩ = some (.int .i64 (n.T j)) := by obtain ⟨z, rfl⟩ := HD.out; exact hI4.t j (by omega)
          have y4 : wr.cell? ⟨w.heap.size, 4, none⟩ = some (.slice n.la n.ln n.lc) := by obtain ⟨z, rfl⟩ := HD.out; exact x4
          have m0 : wr.cell? ⟨wq, 0, none⟩ = some (.int .i64 (n.F k)) := by obtain ⟨z, rfl⟩ := HD.out; exact l0
          have m1 : wr.cell? ⟨wq, 1, none⟩ = some (.int .i64 (n.T k)) := by obtain ⟨z, rfl⟩ := HD.out; exact l1
          have hji : (j : Int) < (k : Int) := by omega
          have hjn : (j : Int) < (n.ln : Int) := by omega
          have HBf : Hid (Below w.heap.size w wr) := hide (by obtain ⟨z, rfl⟩ := HD.out; exact below_drewN (HB2.out.trans (HB4.out.mono HB2.out.size)) z)
          clear hI4
          by_cases hF : n.F j = n.F k
          · have hF' : (n.F j == n.F k) = true := by simp [hF]
            by_cases hT : n.T j = n.T k
            · have hT' : (n.T j == n.T k) = true := by simp [hT]
              have hle := Net.linkErr_six Hno.out Hft.out hjl (show n.net.F j = n.net.F k from hF) (show n.net.T j = n.net.T k from hT)
              have hfin := hide ((Herr.out (by rw [hle]; decide)).trans hle)
              clear hF hT hle
              go_wp2_with fail
              go_quiet (fail)
              go_wp2
              go_ret
              exact ⟨by rw [hfin.out]; rfl, below_drewN HBf.out _⟩
            · have hT' : (n.T j == n.T k) = false := by simp [hT]
              have Hn : Hid (n.net.noLink (n.net.F k) (n.net.T k) (j + 1)) := hide (fun i hi => by
                by_cases e : i = j
                · subst e; exact fun hx => hT hx.2
                · exact Hnl.out i (by omega))
              clear hF hT
              go_wp2_with fail
              go_quiet (fail)
              go_wp2
              go_roundw
              case rel =>
                first
                | exact ⟨j + 1, by omega, by go_num, Hn, hide (by obtain ⟨m, rfl⟩ := HD.out; exact ⟨_, by rw [World.drewN_drewN]⟩)⟩
                | ((try rw [← hla]); (repeat apply Exists.intro); refine ⟨?_, rfl⟩; exact ⟨j + 1, by omega, by go_num, Hn, hide (by obtain ⟨m, rfl⟩ := HD.out; exact ⟨_, by rw [World.drewN_drewN]⟩)⟩)
              case measure => simp [intOf]; omega
          · have hF' : (n.F j == n.F k) = false := by simp [hF]
            have Hn : Hid (n.net.noLink (n.net.F k) (n.net.T k) (j + 1)) := hide (fun i hi => by
              by_cases e : i = j
              · subst e; exact fun hx => hF hx.1
              · exact Hnl.out i (by omega))
            clear hF
            go_wp2_with fail
            go_quiet (fail)
            go_wp2
            go_roundw
            case rel =>
              first
              | exact ⟨j + 1, by omega, by go_num, Hn, hide (by obtain ⟨m, rfl⟩ := HD.out; exact ⟨_, by rw [World.drewN_drewN]⟩)⟩
              | ((try rw [← hla]); (repeat apply Exists.intro); refine ⟨?_, rfl⟩; exact ⟨j + 1, by omega, by go_num, Hn, hide (by obtain ⟨m, rfl⟩ := HD.out; exact ⟨_, by rw [World.drewN_drewN]⟩)⟩)
            case measure => simp [intOf]; omega
        · have hjk : j = k := by omega
          have hle := Net.linkErr_zero Hno.out Hft.out (by rw [hjk] at Hnl; exact Hnl.out)
          have HAn : Hid (∀ r, r < k + 1 → n.net.linkErr r = 0) := hide (fun r hr => by
            by_cases e : r = k
            · subst e; exact hle
            · exact Hall.out r (by omega))
          have HBn : Hid (Below w2.heap.size w2 wr) := hide (by obtain ⟨z, rfl⟩ := HD.out; exact below_drewN HB4.out z)
          have hji : (k : Int) ≤ (j : Int) := by omega
          clear hle
          go_wp2
          go_roundw
          case rel =>
            first
            | exact ⟨k + 1, by omega, by go_num, HAn, HBn⟩
            | ((try rw [← hla]); (repeat apply Exists.intro); refine ⟨?_, rfl⟩; exact ⟨k + 1, by omega, by go_num, HAn, HBn⟩)
          case measure => simp [intOf]; omega
    · have hfin := hide (Hd2.out.trans (firstErr_zero.2 (fun r (hr : r < n.ln) => Hall.out r (by omega))))
      have hki : (n.ln : Int) ≤ (k : Int) := by omega
      have HBw := hide hBw
      clear hBw
      go_wp2
      go_ret
      exact ⟨by rw [hfin.out]; rfl, HBw.out⟩

end Go.Proofs.YtjhkadffaephmabGreat
