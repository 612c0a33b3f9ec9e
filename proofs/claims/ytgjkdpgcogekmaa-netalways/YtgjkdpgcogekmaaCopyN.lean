/-
  slices.Clone, slices.Equal, slices.EqualFunc; state.Copy, state.Same.
-/
import Derived.Test.YtgjkdpgcogekmaaMadeRows
import Derived.Test.YtgjkdpgcogekmaaSame
import Derived.Test.YtgjkdpgcogekmaaRowLib
import Derived.Lib.SliceRun
namespace Go.Proofs.Ytgjkdpgcogekmaa
set_option maxRecDepth 100000
open Go.RowKit

theorem Ints.below {a : Option Addr} {l b o k : Nat} {f : Nat → Int} {w w' : World} (h : Ints a l b o f w) (hb : Below k w w') (hk : 0 < l → b < k) : Ints a l b o f w' :=
  ⟨h.addr, fun i hi => by rw [hb.cell (p := ⟨b, o + i, none⟩) (hk (by omega))]; exact h.cell i hi, h.len⟩

set_option maxHeartbeats 1000000 in
theorem clone_any (a : Option Addr) (p q b o : Nat) (f : Nat → Int) (w : World) (h : Ints a p b o f w) (hp : 0 < p) (hp1 : p ≤ 100) (hb : b < w.heap.size) :
    Calls Try.prog 101 #[.slice a p q] w fun e w' => ∃ g c : Nat, e = .returned (.slice (some ⟨g, 0, none⟩) p c) ∧ Below w.heap.size w w' ∧ w.heap.size ≤ g ∧ g < w'.heap.size ∧ ∀ j, j < p → w'.cell? ⟨g, j, none⟩ = some (.int .i64 (f j)) := by
  obtain ⟨i1, hi1, hy0, hy1, hy2⟩ := info_parts Try.infoInt
  have ha := h.addr hp
  subst ha
  have hBa : Below w.heap.size w (w.alloc (.cells #[] 3)) := (Below.refl _ w).alloc (Nat.le_refl _) _
  have h2 := h.below hBa (fun _ => hb)
  have hown0 : World.ownsRow (w.alloc (.cells #[] 3)) w.heap.size 3 1 (.slice (some ⟨w.heap.size, 0, none⟩) 0 0) 0 [] :=
    World.ownsRow_made w #[] 0 (base := w.heap.size) (e := 3) (size := 1) (Nat.le_refl _) (Nat.zero_le _) (by simp)
  have hl : (intsL f p).length = p * 1 := by rw [intsL_len, Nat.mul_one]
  have hnews : ∀ j u, (intsL f p)[j]? = some u → (w.alloc (.cells #[] 3)).cell? ((⟨b, o, none⟩ : Addr).add j) = some u := fun j u hu => by
    have hj : j < p := by
      rcases Nat.lt_or_ge j p with h' | h'
      · exact h'
      · rw [List.getElem?_eq_none (by rw [intsL_len]; exact h')] at hu; cases hu
    rw [intsL_get hj] at hu
    cases hu
    rw [Go.WideShapes.add_plain]
    exact h2.cell j hj
  have hone : ∀ u ∈ intsL f p, u.oneCell' = true := fun u hu => by
    simp only [intsL, List.mem_map] at hu
    obtain ⟨j, _, rfl⟩ := hu
    rfl
  have hnil := Lib.run_eql_slice_nil (P := Try.prog) w 32 3 (some ⟨b, o, none⟩) p q 0 0 Try.underlying32
  have Hown := hide hown0
  have Hnews := hide hnews
  have Hone := hide hone
  have HBa := hide hBa
  clear h h2 hBa hown0 hnews hone
  go_enter Try.func101, Try.ntmps101
  go_wp2_with (at_builtin; refine wpList_append_lies _ rfl _ _ _ rfl w.heap.size 3 i1 _ 1 8 Try.underlying32 hi1 hy0 hy1 hy2 rfl (by decide) _ 0 [] rfl Hown.out ⟨b, o, none⟩ p q (intsL f p) rfl hl Hnews.out Hone.out hp ?c3 ?c4 ?c5 _ rfl ?_)
  all_goals try (case c3 => unfold maxLen; omega)
  all_goals try (case c4 => omega)
  all_goals try (case c5 => simp)
  intro g c w' hown hgrow hat hlt
  have hB : Below w.heap.size w w' := HBa.out.grown hgrow (by simp) (fun k hk => by cases hk; exact Nat.le_refl _)
  have hcell : ∀ j, j < p → w'.cell? ⟨g, j, none⟩ = some (.int .i64 (f j)) := fun j hj => by
    rw [hown.cellAt j (by omega), intsL_get hj]
  have hg := (hown.lt g rfl).1
  have HF := hide (And.intro hB (And.intro hg (And.intro hlt hcell)))
  clear hown hgrow hat hlt hB hcell hg
  go_wp2
  go_ret
  exact ⟨g, c, rfl, HF.out⟩

set_option maxHeartbeats 2000000 in
theorem copy_any (x : Mat) (N : Nat) (w : World) (h : x.In w.heap.size w) (hl : x.t.len = N) (hw : ∀ r, r < N → x.t.L r = N) (hN : N ≤ 100) :
    Calls Try.prog 77 #[x.val] w fun e w' => (∃ m : Mat, e = .returned m.val ∧ Fresh N w.heap.size x.t.Z m w') ∧ Below w.heap.size w w' := by
  obtain ⟨i2, hi2, hx0, hx1, hx2⟩ := info_parts Try.infoInts
  have hmkA : ∀ u : World, (Instr.makeSlice 22 (.int .i64 (N : Int)) (.int .i64 (N : Int))).run Try.prog u = .ok (.slice (some ⟨u.heap.size, 0, none⟩) N N) (u.alloc (.cells (madeCells #[.slice none 0 0] N) 32)) := fun u => by
    have h := run_make (P := Try.prog) u 22 32 i2 (.slice none 0 0) Try.underlying22 hi2 hx0 .i64 .i64 (N : Int) (N : Int) (by omega) (Int.le_refl _) (by rw [hx2]; omega) (by omega)
    simpa [hx1, Value.cells] using h
  have H := hide h
  have HW := hide hw
  have HL := hide hl
  simp only [Mat.val, hl]
  clear h hw hl
  go_enter Try.func77, Try.ntmps77
  go_wp2_with fail
  go_loopw [4, 5, 11] (fun _ _ q wr => ∃ k : Nat, k ≤ N ∧ q = .int .i64 k ∧ Hid (Below w.heap.size w wr) ∧ Hid (∃ g c : Nat → Nat, MadeI w.heap.size w.heap.size g c N N x.t.Z k wr)) (fun _ _ q _ => N - (intOf q).toNat)
  case atStart => exact ⟨0, Nat.zero_le _, rfl, hide ((Below.refl _ _).alloc (Nat.le_refl _) _), hide ⟨_, _, MadeI.start w w.heap.size N N x.t.Z (Nat.le_refl _)⟩⟩
  case round =>
    obtain ⟨k, hk, rfl, HB, HM⟩ := hrel
    by_cases hlt : k < N
    · have hkl : k < x.t.len := by rw [HL.out]; exact hlt
      have hI := H.out.below HB.out (Nat.le_refl _)
      have hga := hI.ga (by omega)
      have hrow := hI.row k hkl
      have had := hI.addr k hkl (by rw [HW.out k hlt]; omega)
      have hii : Ints (x.A k) (x.t.L k) (x.RB k) (x.RO k) (x.t.Z k) wr := hI.ints hkl
      rw [HW.out k hlt] at hrow hii
      have HC := hide (clone_any (x.A k) N (x.C k) (x.RB k) (x.RO k) (x.t.Z k) wr hii (by omega) hN (Nat.lt_of_lt_of_le had.2 HB.out.size))
      have hki : (k : Int) < (N : Int) := by omega
      obtain ⟨g, c, hM⟩ := HM.out
      clear HM hii hI had
      go_wp2_with fail
      go_at_call 101
      refine HC.out.mono ?_
      rintro e w2 ⟨gn, cn, rfl, hb2, hg1, hg2, hz⟩
      have hM2 := hM.below hb2
      have o1 := hM2.out.cell k
      rw [outG_get hlt, if_neg (Nat.lt_irrefl _)] at o1
      have of := hM2.out.frozen k
      have HM3 : Hid (∃ g c : Nat → Nat, MadeI w.heap.size w.heap.size g c N N x.t.Z (k + 1) (w2.setCell ⟨w.heap.size, k, none⟩ (.slice (some ⟨gn, 0, none⟩) N cn))) :=
        hide ⟨_, _, hM2.put (by have := HB.out.size; omega) hg2 (by have := hM.out.lt; omega) hz⟩
      have HB3 := hide ((HB.out.trans (hb2.mono HB.out.size)).setCell (p := ⟨w.heap.size, k, none⟩) (Nat.le_refl _) (.slice (some ⟨gn, 0, none⟩) N cn))
      clear hM hM2 hz hg1 hg2 hb2 HB HC
      go_wp2
      go_roundw
      case rel =>
        first
        | exact ⟨k + 1, by omega, by go_num, HB3, HM3⟩
        | ((try rw [← hga]); (repeat apply Exists.intro); refine ⟨?_, rfl⟩; exact ⟨k + 1, by omega, by go_num, HB3, HM3⟩)
      case measure => simp [intOf]; omega
    · have hkn : k = N := by omega
      subst hkn
      obtain ⟨g, c, hM⟩ := HM.out
      obtain ⟨m, e1, e2, e3, e4⟩ := hM.mat (by omega) (by omega)
      have He := hide e1
      have HF : Hid (Fresh k w.heap.size x.t.Z m wr) := hide ⟨e2, e3, e4⟩
      clear hM e1 e2 e3 e4 HM
      go_wp2
      go_ret
      exact ⟨⟨m, congrArg Ending.returned He.out, HF.out⟩, HB.out⟩

set_option maxHeartbeats 1000000 in
theorem sEqual_any (a1 a2 : Option Addr) (l1 l2 q1 q2 b1 o1 b2 o2 : Nat) (f g : Nat → Int) (w : World) (h1 : Ints a1 l1 b1 o1 f w) (h2 : Ints a2 l2 b2 o2 g w) :
    Calls Try.prog 104 #[.slice a1 l1 q1, .slice a2 l2 q2] w fun e w' => e = .returned (.bool (sameInts l1 l2 f g)) ∧ ∃ m, w' = w.drewN m := by
  have hl1 := h1.len
  have hl2 := h2.len
  unfold maxLen at hl1 hl2
  by_cases hl : l1 = l2
  · subst hl
    go_enter Try.func104, Try.ntmps104
    go_wp2
    go_loopw [5, 13] (fun _ i wr => ∃ k : Nat, k ≤ l1 ∧ i = .int .i64 k ∧ Hid (∀ r, r < k → f r = g r) ∧ Hid (∃ m, wr = w.drewN m)) (fun _ i _ => l1 - (intOf i).toNat)
    case atStart => exact ⟨0, Nat.zero_le _, rfl, hide (fun r hr => absurd hr (Nat.not_lt_zero _)), hide ⟨0, rfl⟩⟩
    case round =>
      obtain ⟨k, hk, rfl, Hall, HD⟩ := hrel
      by_cases hlt : k < l1
      · have ha1 := h1.addr (by omega)
        have ha2 := h2.addr (by omega)
        have hc1 : wr.cell? ⟨b1, o1 + k, none⟩ = some (.int .i64 (f k)) := by obtain ⟨m, rfl⟩ := HD.out; exact h1.cell k hlt
        have hc2 : wr.cell? ⟨b2, o2 + k, none⟩ = some (.int .i64 (g k)) := by obtain ⟨m, rfl⟩ := HD.out; exact h2.cell k hlt
        have hki : (k : Int) < (l1 : Int) := by omega
        by_cases he : f k = g k
        · have he' : (f k != g k) = false := by simp [he]
          have He := hide he
          clear he
          go_wp2_with fail
          go_quiet (fail)
          go_wp2
          go_roundw
          case rel =>
            have hn : ∀ r, r < k + 1 → f r = g r := fun r hr => by
              by_cases e : r = k
              · subst e; exact He.out
              · exact Hall.out r (by omega)
            first
            | exact ⟨k + 1, by omega, by go_num, hide hn, hide (by obtain ⟨m, rfl⟩ := HD.out; exact ⟨_, by rw [World.drewN_drewN]⟩)⟩
            | ((try rw [← ha1]); (try rw [← ha2]); (repeat apply Exists.intro); refine ⟨?_, rfl⟩; exact ⟨k + 1, by omega, by go_num, hide hn, hide (by obtain ⟨m, rfl⟩ := HD.out; exact ⟨_, by rw [World.drewN_drewN]⟩)⟩)
          case measure => simp [intOf]; omega
        · have he' : (f k != g k) = true := by simp [he]
          have Hw := hide (sameInts_false (m := l1) hlt he)
          clear he
          go_wp2_with fail
          go_quiet (fail)
          go_wp2
          go_ret
          exact ⟨by rw [Hw.out]; rfl, by obtain ⟨m, rfl⟩ := HD.out; exact ⟨_, by rw [World.drewN_drewN]⟩⟩
      · have Hw : Hid (sameInts l1 l1 f g = true) := hide (sameInts_iff.2 ⟨rfl, fun i hi => Hall.out i (by omega)⟩)
        go_wp2
        go_ret
        exact ⟨by rw [Hw.out]; rfl, HD.out⟩
  · have hne : ((l1 : Int) != (l2 : Int)) = true := by simp; omega
    have Hw : Hid (sameInts l1 l2 f g = false) := hide (by simp [sameInts, hl])
    clear hl
    go_enter Try.func104, Try.ntmps104
    go_wp2
    go_ret
    exact ⟨by rw [Hw.out]; rfl, 0, rfl⟩

set_option maxHeartbeats 1000000 in
theorem same1_any (a1 a2 : Option Addr) (l1 l2 q1 q2 b1 o1 b2 o2 : Nat) (f g : Nat → Int) (w : World) (h1 : Ints a1 l1 b1 o1 f w) (h2 : Ints a2 l2 b2 o2 g w) :
    Calls Try.prog 103 #[.slice a1 l1 q1, .slice a2 l2 q2] w fun e w' => e = .returned (.bool (sameInts l1 l2 f g)) ∧ ∃ m, w' = w.drewN m := by
  have HC := hide (sEqual_any a1 a2 l1 l2 q1 q2 b1 o1 b2 o2 f g w h1 h2)
  clear h1 h2
  go_enter Try.func103, Try.ntmps103
  go_wp2_with fail
  go_at_call 104
  refine HC.out.mono ?_
  rintro e w1 ⟨rfl, m, rfl⟩
  go_wp2
  go_ret
  exact ⟨rfl, m, rfl⟩

theorem calls_same1 (args : Array Value) (W : World) : (callFunc 103 args).run Try.prog W = .ok (.enter 103 args) W := by rfl

set_option maxHeartbeats 1000000 in
theorem equalFunc_any (x y : Mat) (n : Nat) (w : World) (h1 : x.In n w) (h2 : y.In n w) :
    Calls Try.prog 102 #[x.val, y.val, .func (.func 103) #[] #[]] w fun e w' => e = .returned (.bool (x.t.same y.t)) ∧ ∃ m, w' = w.drewN m := by
  have hl1 := h1.len
  have hl2 := h2.len
  unfold maxLen at hl1 hl2
  have hcf := calls_same1
  simp only [Mat.val]
  by_cases hl : x.t.len = y.t.len
  · have Hl := hide hl
    have hne : ((x.t.len : Int) != (y.t.len : Int)) = false := by simp [hl]
    clear hl
    go_enter Try.func102, Try.ntmps102
    go_wp2
    go_loopw [7, 8, 9, 17] (fun _ _ _ i wr => ∃ k : Nat, k ≤ x.t.len ∧ i = .int .i64 k ∧ Hid (∀ r, r < k → sameInts (x.t.L r) (y.t.L r) (x.t.Z r) (y.t.Z r) = true) ∧ Hid (∃ m, wr = w.drewN m)) (fun _ _ _ i _ => x.t.len - (intOf i).toNat)
    case atStart => exact ⟨0, Nat.zero_le _, rfl, hide (fun r hr => absurd hr (Nat.not_lt_zero _)), hide ⟨0, rfl⟩⟩
    case round =>
      obtain ⟨k, hk, rfl, Hall, HD⟩ := hrel
      by_cases hlt : k < x.t.len
      · have hlt2 : k < y.t.len := by have := Hl.out; omega
        have ha1 := h1.ga (by omega)
        have ha2 := h2.ga (by omega)
        have hc1 : wr.cell? ⟨x.gb, x.go + k, none⟩ = some (.slice (x.A k) (x.t.L k) (x.C k)) := by obtain ⟨m, rfl⟩ := HD.out; exact h1.row k hlt
        have hc2 : wr.cell? ⟨y.gb, y.go + k, none⟩ = some (.slice (y.A k) (y.t.L k) (y.C k)) := by obtain ⟨m, rfl⟩ := HD.out; exact h2.row k hlt2
        have hki : (k : Int) < (x.t.len : Int) := by omega
        have hki2 : (k : Int) < (y.t.len : Int) := by omega
        have hS := hide (same1_any (x.A k) (y.A k) (x.t.L k) (y.t.L k) (x.C k) (y.C k) _ _ _ _ _ _ wr (by obtain ⟨m, rfl⟩ := HD.out; exact ints_drewN (h1.ints hlt) m) (by obtain ⟨m, rfl⟩ := HD.out; exact ints_drewN (h2.ints hlt2) m))
        cases hs : sameInts (x.t.L k) (y.t.L k) (x.t.Z k) (y.t.Z k) with
        | true =>
          simp only [hs] at hS
          have Hs := hide hs
          clear hs
          go_wp2_with fail
          refine hS.out.mono ?_
          rintro e w' ⟨rfl, q, rfl⟩
          go_wp2
          go_roundw
          case rel =>
            have hn : ∀ r, r < k + 1 → sameInts (x.t.L r) (y.t.L r) (x.t.Z r) (y.t.Z r) = true := fun r hr => by
              by_cases e : r = k
              · subst e; exact Hs.out
              · exact Hall.out r (by omega)
            first
            | exact ⟨k + 1, by omega, by go_num, hide hn, hide (by obtain ⟨m, rfl⟩ := HD.out; exact ⟨_, by rw [World.drewN_drewN]⟩)⟩
            | ((try rw [← ha1]); (try rw [← ha2]); (repeat apply Exists.intro); refine ⟨?_, rfl⟩; exact ⟨k + 1, by omega, by go_num, hide hn, hide (by obtain ⟨m, rfl⟩ := HD.out; exact ⟨_, by rw [World.drewN_drewN]⟩)⟩)
          case measure => simp [intOf]; omega
        | false =>
          simp only [hs] at hS
          have Hw := hide (Tab.same_false hlt hs)
          clear hs
          go_wp2_with fail
          refine hS.out.mono ?_
          rintro e w' ⟨rfl, q, rfl⟩
          go_wp2
          go_ret
          exact ⟨by rw [Hw.out]; rfl, by obtain ⟨m, rfl⟩ := HD.out; exact ⟨_, by rw [World.drewN_drewN]⟩⟩
      · have Hw : Hid (x.t.same y.t = true) := hide (Tab.same_true Hl.out (fun i hi => Hall.out i (by omega)))
        go_wp2
        go_ret
        exact ⟨by rw [Hw.out]; rfl, HD.out⟩
  · have hne : ((x.t.len : Int) != (y.t.len : Int)) = true := by simp; omega
    have Hw : Hid (x.t.same y.t = false) := hide (by simp [Tab.same, hl])
    clear hl
    go_enter Try.func102, Try.ntmps102
    go_wp2
    go_ret
    exact ⟨by rw [Hw.out]; rfl, 0, rfl⟩

set_option maxHeartbeats 1000000 in
theorem same_any (x y : Mat) (n : Nat) (w : World) (h1 : x.In n w) (h2 : y.In n w) :
    Calls Try.prog 78 #[x.val, y.val] w fun e w' => e = .returned (.bool (x.t.same y.t)) ∧ ∃ m, w' = w.drewN m := by
  have HC := hide (equalFunc_any x y n w h1 h2)
  simp only [Mat.val] at HC ⊢
  clear h1 h2
  go_enter Try.func78, Try.ntmps78
  go_wp2_with fail
  go_at_call 102
  refine HC.out.mono ?_
  rintro e w1 ⟨rfl, m, rfl⟩
  go_wp2
  go_ret
  exact ⟨rfl, m, rfl⟩

end Go.Proofs.Ytgjkdpgcogekmaa
