/-
  Our own texts, bundled: a claim holds few files.
-/
import Derived.Test.YtjhkadffaephmabBundleBF
import Derived.Test.YtjhkadffaephmabBundleAJ
import Derived.Lib.SliceRun
/-
  slices.Clone, slices.Equal, slices.EqualFunc; state.Copy, state.Same.
-/
namespace Go.Proofs.Ytjhkadffaephmab
set_option maxRecDepth 100000
open Go.RowKit

set_option maxHeartbeats 1000000 in
theorem clone_any (a : Option Addr) (p q b o : Nat) (f : Nat → Int) (w : World) (h : Ints a p b o f w) (hp : 0 < p) (hp1 : p ≤ 100) (hb : b < w.heap.size) :
    Calls Try.prog 139 #[.slice a p q] w fun e w' => ∃ g c : Nat, e = .returned (.slice (some ⟨g, 0, none⟩) p c) ∧ Below w.heap.size w w' ∧ w.heap.size ≤ g ∧ g < w'.heap.size ∧ ∀ j, j < p → w'.cell? ⟨g, j, none⟩ = some (.int .i64 (f j)) := by
  obtain ⟨i1, hi1, hy0, hy1, hy2⟩ := info_parts Try.infoInt
  have ha := h.addr hp
  subst ha
  have hBa : Below w.heap.size w (w.alloc (.cells #[] 3)) := (Below.refl _ w).alloc (Nat.le_refl _) _
  have h2 := h.below hBa (fun _ => hb)
  have hown0 : World.ownsRow (w.alloc (.cells #[] 3)) w.heap.size 3 1 (.slice (some ⟨w.heap.size, 0, none⟩) 0 0) 0 [] :=
    World.ownsRow_made w #[] 0 (base := w.heap.size) (e := 3) (size := 1) (Nat.le_refl _) (Nat.zero_le _) (by simp)
  have hl : (intsL f p).length = p * 1 := by rw [intsL_len, Nat.mul_one]
  have hnews : ∀ j u, (intsL f p)[j]? = some u → (w.alloc (.cells #[] 3)).cell? ((⟨b, o, none⟩ : Addr).add j) = some u := fun j u hu => by
    have hj : j < p := by
      rcases Nat.lt_or_ge j p with h' | h'
      · exact h'
      · rw [List.getElem?_eq_none (by rw [intsL_len]; exact h')] at hu; cases hu
    rw [intsL_get hj] at hu
    cases hu
    rw [Go.WideShapes.add_plain]
    exact h2.cell j hj
  have hone : ∀ u ∈ intsL f p, u.oneCell' = true := fun u hu => by
    simp only [intsL, List.mem_map] at hu
    obtain ⟨j, _, rfl⟩ := hu
    rfl
  have hnil := Lib.run_eql_slice_nil (P := Try.prog) w 22 3 (some ⟨b, o, none⟩) p q 0 0 Try.underlying22
  have Hown := hide hown0
  have Hnews := hide hnews
  have Hone := hide hone
  have HBa := hide hBa
  clear h h2 hBa hown0 hnews hone
  go_enter Try.func139, Try.ntmps139
  go_wp2_with (at_builtin; refine wpList_append_lies _ rfl _ _ _ rfl w.heap.size 3 i1 _ 1 8 Try.underlying22 hi1 hy0 hy1 hy2 rfl (by decide) _ 0 [] rfl Hown.out ⟨b, o, none⟩ p q (intsL f p) rfl hl Hnews.out Hone.out hp ?c3 ?c4 ?c5 _ rfl ?_)
  all_goals try (case c3 => unfold maxLen; omega)
  all_goals try (case c4 => omega)
  all_goals try (case c5 => simp)
  intro g c w' hown hgrow hat hlt
  have hB : Below w.heap.size w w' := HBa.out.grown hgrow (by simp) (fun k hk => by cases hk; exact Nat.le_refl _)
  have hcell : ∀ j, j < p → w'.cell? ⟨g, j, none⟩ = some (.int .i64 (f j)) := fun j hj => by
    rw [hown.cellAt j (by omega), intsL_get hj]
  have hg := (hown.lt g rfl).1
  have HF := hide (And.intro hB (And.intro hg (And.intro hlt hcell)))
  clear hown hgrow hat hlt hB hcell hg
  go_wp2
  go_ret
  exact ⟨g, c, rfl, HF.out⟩

set_option maxHeartbeats 2000000 in
theorem copy_any (x : Mat) (N : Nat) (w : World) (h : x.In w.heap.size w) (hl : x.t.len = N) (hw : ∀ r, r < N → x.t.L r = N) (hN : N ≤ 100) :
    Calls Try.prog 87 #[x.val] w fun e w' => (∃ m : Mat, e = .returned m.val ∧ Fresh N w.heap.size x.t.Z m w') ∧ Below w.heap.size w w' := by
  obtain ⟨i2, hi2, hx0, hx1, hx2⟩ := info_parts Try.infoInts
  have hmkA : ∀ u : World, (Instr.makeSlice 36 (.int .i64 (N : Int)) (.int .i64 (N : Int))).run Try.prog u = .ok (.slice (some ⟨u.heap.size, 0, none⟩) N N) (u.alloc (.cells (madeCells #[.slice none 0 0] N) 22)) := fun u => by
    have h := run_make (P := Try.prog) u 36 22 i2 (.slice none 0 0) Try.underlying36 hi2 hx0 .i64 .i64 (N : Int) (N : Int) (by omega) (Int.le_refl _) (by rw [hx2]; omega) (by omega)
    simpa [hx1, Value.cells] using h
  have H := hide h
  have HW := hide hw
  have HL := hide hl
  simp only [Mat.val, hl]
  clear h hw hl
  go_enter Try.func87, Try.ntmps87
  go_wp2_with fail
  go_loopw [4, 5, 11] (fun _ _ q wr => ∃ k : Nat, k ≤ N ∧ q = .int .i64 k ∧ Hid (Below w.heap.size w wr) ∧ Hid (∃ g c : Nat → Nat, MadeI w.heap.size w.heap.size g c N N x.t.Z k wr)) (fun _ _ q _ => N - (intOf q).toNat)
  case atStart => exact ⟨0, Nat.zero_le _, rfl, hide ((Below.refl _ _).alloc (Nat.le_refl _) _), hide ⟨_, _, MadeI.start w w.heap.size N N x.t.Z (Nat.le_refl _)⟩⟩
  case round =>
    obtain ⟨k, hk, rfl, HB, HM⟩ := hrel
    by_cases hlt : k < N
    · have hkl : k < x.t.len := by rw [HL.out]; exact hlt
      have hI := H.out.below HB.out (Nat.le_refl _)
      have hga := hI.ga (by omega)
      have hrow := hI.row k hkl
      have had := hI.addr k hkl (by rw [HW.out k hlt]; omega)
      have hii : Ints (x.A k) (x.t.L k) (x.RB k) (x.RO k) (x.t.Z k) wr := hI.ints hkl
      rw [HW.out k hlt] at hrow hii
      have HC := hide (clone_any (x.A k) N (x.C k) (x.RB k) (x.RO k) (x.t.Z k) wr hii (by omega) hN (Nat.lt_of_lt_of_le had.2 HB.out.size))
      have hki : (k : Int) < (N : Int) := by omega
      obtain ⟨g, c, hM⟩ := HM.out
      clear HM hii hI had
      go_wp2_with fail
      go_at_call 139
      refine HC.out.mono ?_
      rintro e w2 ⟨gn, cn, rfl, hb2, hg1, hg2, hz⟩
      have hM2 := hM.below hb2
      have o1 := hM2.out.cell k
      rw [outG_get hlt, if_neg (Nat.lt_irrefl _)] at o1
      have of := hM2.out.frozen k
      have HM3 : Hid (∃ g c : Nat → Nat, MadeI w.heap.size w.heap.size g c N N x.t.Z (k + 1) (w2.setCell ⟨w.heap.size, k, none⟩ (.slice (some ⟨gn, 0, none⟩) N cn))) :=
        hide ⟨_, _, hM2.put (by have := HB.out.size; omega) hg2 (by have := hM.out.lt; omega) hz⟩
      have HB3 := hide ((HB.out.trans (hb2.mono HB.out.size)).setCell (p := ⟨w.heap.size, k, none⟩) (Nat.le_refl _) (.slice (some ⟨gn, 0, none⟩) N cn))
      clear hM hM2 hz hg1 hg2 hb2 HB HC
      go_wp2
      go_roundw
      case rel =>
        first
        | exact ⟨k + 1, by omega, by go_num, HB3, HM3⟩
        | ((try rw [← hga]); (repeat apply Exists.intro); refine ⟨?_, rfl⟩; exact ⟨k + 1, by omega, by go_num, HB3, HM3⟩)
      case measure => simp [intOf]; omega
    · have hkn : k = N := by omega
      subst hkn
      obtain ⟨g, c, hM⟩ := HM.out
      obtain ⟨m, e1, e2, e3, e4⟩ := hM.mat (by omega) (by omega)
      have He := hide e1
      have HF : Hid (Fresh k w.heap.size x.t.Z m wr) := hide ⟨e2, e3, e4⟩
      clear hM e1 e2 e3 e4 HM
      go_wp2
      go_ret
      exact ⟨⟨m, congrArg Ending.returned He.out, HF.out⟩, HB.out⟩

set_option maxHeartbeats 1000000 in
theorem sEqual_any (a1 a2 : Option Addr) (l1 l2 q1 q2 b1 o1 b2 o2 : Nat) (f g : Nat → Int) (w : World) (h1 : Ints a1 l1 b1 o1 f w) (h2 : Ints a2 l2 b2 o2 g w) :
    Calls Try.prog 157 #[.slice a1 l1 q1, .slice a2 l2 q2] w fun e w' => e = .returned (.bool (sameInts l1 l2 f g)) ∧ ∃ m, w' = w.drewN m := by
  have hl1 := h1.len
  have hl2 := h2.len
  unfold maxLen at hl1 hl2
  by_cases hl : l1 = l2
  · subst hl
    go_enter Try.func157, Try.ntmps157
    go_wp2
    go_loopw [5, 13] (fun _ i wr => ∃ k : Nat, k ≤ l1 ∧ i = .int .i64 k ∧ Hid (∀ r, r < k → f r = g r) ∧ Hid (∃ m, wr = w.drewN m)) (fun _ i _ => l1 - (intOf i).toNat)
    case atStart => exact ⟨0, Nat.zero_le _, rfl, hide (fun r hr => absurd hr (Nat.not_lt_zero _)), hide ⟨0, rfl⟩⟩
    case round =>
      obtain ⟨k, hk, rfl, Hall, HD⟩ := hrel
      by_cases hlt : k < l1
      · have ha1 := h1.addr (by omega)
        have ha2 := h2.addr (by omega)
        have hc1 : wr.cell? ⟨b1, o1 + k, none⟩ = some (.int .i64 (f k)) := by obtain ⟨m, rfl⟩ := HD.out; exact h1.cell k hlt
        have hc2 : wr.cell? ⟨b2, o2 + k, none⟩ = some (.int .i64 (g k)) := by obtain ⟨m, rfl⟩ := HD.out; exact h2.cell k hlt
        have hki : (k : Int) < (l1 : Int) := by omega
        by_cases he : f k = g k
        · have he' : (f k != g k) = false := by simp [he]
          have He := hide he
          clear he
          go_wp2_with fail
          go_quiet (fail)
          go_wp2
          go_roundw
          case rel =>
            have hn : ∀ r, r < k + 1 → f r = g r := fun r hr => by
              by_cases e : r = k
              · subst e; exact He.out
              · exact Hall.out r (by omega)
            first
            | exact ⟨k + 1, by omega, by go_num, hide hn, hide (by obtain ⟨m, rfl⟩ := HD.out; exact ⟨_, by rw [World.drewN_drewN]⟩)⟩
            | ((try rw [← ha1]); (try rw [← ha2]); (repeat apply Exists.intro); refine ⟨?_, rfl⟩; exact ⟨k + 1, by omega, by go_num, hide hn, hide (by obtain ⟨m, rfl⟩ := HD.out; exact ⟨_, by rw [World.drewN_drewN]⟩)⟩)
          case measure => simp [intOf]; omega
        · have he' : (f k != g k) = true := by simp [he]
          have Hw := hide (sameInts_false (m := l1) hlt he)
          clear he
          go_wp2_with fail
          go_quiet (fail)
          go_wp2
          go_ret
          exact ⟨by rw [Hw.out]; rfl, by obtain ⟨m, rfl⟩ := HD.out; exact ⟨_, by rw [World.drewN_drewN]⟩⟩
      · have Hw : Hid (sameInts l1 l1 f g = true) := hide (sameInts_iff.2 ⟨rfl, fun i hi => Hall.out i (by omega)⟩)
        go_wp2
        go_ret
        exact ⟨by rw [Hw.out]; rfl, HD.out⟩
  · have hne : ((l1 : Int) != (l2 : Int)) = true := by simp; omega
    have Hw : Hid (sameInts l1 l2 f g = false) := hide (by simp [sameInts, hl])
    clear hl
    go_enter Try.func157, Try.ntmps157
    go_wp2
    go_ret
    exact ⟨by rw [Hw.out]; rfl, 0, rfl⟩

set_option maxHeartbeats 1000000 in
theorem same1_any (a1 a2 : Option Addr) (l1 l2 q1 q2 b1 o1 b2 o2 : Nat) (f g : Nat → Int) (w : World) (h1 : Ints a1 l1 b1 o1 f w) (h2 : Ints a2 l2 b2 o2 g w) :
    Calls Try.prog 156 #[.slice a1 l1 q1, .slice a2 l2 q2] w fun e w' => e = .returned (.bool (sameInts l1 l2 f g)) ∧ ∃ m, w' = w.drewN m := by
  have HC := hide (sEqual_any a1 a2 l1 l2 q1 q2 b1 o1 b2 o2 f g w h1 h2)
  clear h1 h2
  go_enter Try.func156, Try.ntmps156
  go_wp2_with fail
  go_at_call 157
  refine HC.out.mono ?_
  rintro e w1 ⟨rfl, m, rfl⟩
  go_wp2
  go_ret
  exact ⟨rfl, m, rfl⟩

theorem calls_same1 (args : Array Value) (W : World) : (callFunc 156 args).run Try.prog W = .ok (.enter 156 args) W := by rfl

set_option maxHeartbeats 1000000 in
theorem equalFunc_any (x y : Mat) (n : Nat) (w : World) (h1 : x.In n w) (h2 : y.In n w) :
    Calls Try.prog 155 #[x.val, y.val, .func (.func 156) #[] #[]] w fun e w' => e = .returned (.bool (x.t.same y.t)) ∧ ∃ m, w' = w.drewN m := by
  have hl1 := h1.len
  have hl2 := h2.len
  unfold maxLen at hl1 hl2
  have hcf := calls_same1
  simp only [Mat.val]
  by_cases hl : x.t.len = y.t.len
  · have Hl := hide hl
    have hne : ((x.t.len : Int) != (y.t.len : Int)) = false := by simp [hl]
    clear hl
    go_enter Try.func155, Try.ntmps155
    go_wp2
    go_loopw [7, 8, 9, 17] (fun _ _ _ i wr => ∃ k : Nat, k ≤ x.t.len ∧ i = .int .i64 k ∧ Hid (∀ r, r < k → sameInts (x.t.L r) (y.t.L r) (x.t.Z r) (y.t.Z r) = true) ∧ Hid (∃ m, wr = w.drewN m)) (fun _ _ _ i _ => x.t.len - (intOf i).toNat)
    case atStart => exact ⟨0, Nat.zero_le _, rfl, hide (fun r hr => absurd hr (Nat.not_lt_zero _)), hide ⟨0, rfl⟩⟩
    case round =>
      obtain ⟨k, hk, rfl, Hall, HD⟩ := hrel
      by_cases hlt : k < x.t.len
      · have hlt2 : k < y.t.len := by have := Hl.out; omega
        have ha1 := h1.ga (by omega)
        have ha2 := h2.ga (by omega)
        have hc1 : wr.cell? ⟨x.gb, x.go + k, none⟩ = some (.slice (x.A k) (x.t.L k) (x.C k)) := by obtain ⟨m, rfl⟩ := HD.out; exact h1.row k hlt
        have hc2 : wr.cell? ⟨y.gb, y.go + k, none⟩ = some (.slice (y.A k) (y.t.L k) (y.C k)) := by obtain ⟨m, rfl⟩ := HD.out; exact h2.row k hlt2
        have hki : (k : Int) < (x.t.len : Int) := by omega
        have hki2 : (k : Int) < (y.t.len : Int) := by omega
        have hS := hide (same1_any (x.A k) (y.A k) (x.t.L k) (y.t.L k) (x.C k) (y.C k) _ _ _ _ _ _ wr (by obtain ⟨m, rfl⟩ := HD.out; exact ints_drewN (h1.ints hlt) m) (by obtain ⟨m, rfl⟩ := HD.out; exact ints_drewN (h2.ints hlt2) m))
        cases hs : sameInts (x.t.L k) (y.t.L k) (x.t.Z k) (y.t.Z k) with
        | true =>
          simp only [hs] at hS
          have Hs := hide hs
          clear hs
          go_wp2_with fail
          refine hS.out.mono ?_
          rintro e w' ⟨rfl, q, rfl⟩
          go_wp2
          go_roundw
          case rel =>
            have hn : ∀ r, r < k + 1 → sameInts (x.t.L r) (y.t.L r) (x.t.Z r) (y.t.Z r) = true := fun r hr => by
              by_cases e : r = k
              · subst e; exact Hs.out
              · exact Hall.out r (by omega)
            first
            | exact ⟨k + 1, by omega, by go_num, hide hn, hide (by obtain ⟨m, rfl⟩ := HD.out; exact ⟨_, by rw [World.drewN_drewN]⟩)⟩
            | ((try rw [← ha1]); (try rw [← ha2]); (repeat apply Exists.intro); refine ⟨?_, rfl⟩; exact ⟨k + 1, by omega, by go_num, hide hn, hide (by obtain ⟨m, rfl⟩ := HD.out; exact ⟨_, by rw [World.drewN_drewN]⟩)⟩)
          case measure => simp [intOf]; omega
        | false =>
          simp only [hs] at hS
          have Hw := hide (Tab.same_false hlt hs)
          clear hs
          go_wp2_with fail
          refine hS.out.mono ?_
          rintro e w' ⟨rfl, q, rfl⟩
          go_wp2
          go_ret
          exact ⟨by rw [Hw.out]; rfl, by obtain ⟨m, rfl⟩ := HD.out; exact ⟨_, by rw [World.drewN_drewN]⟩⟩
      · have Hw : Hid (x.t.same y.t = true) := hide (Tab.same_true Hl.out (fun i hi => Hall.out i (by omega)))
        go_wp2
        go_ret
        exact ⟨by rw [Hw.out]; rfl, HD.out⟩
  · have hne : ((x.t.len : Int) != (y.t.len : Int)) = true := by simp; omega
    have Hw : Hid (x.t.same y.t = false) := hide (by simp [Tab.same, hl])
    clear hl
    go_enter Try.func155, Try.ntmps155
    go_wp2
    go_ret
    exact ⟨by rw [Hw.out]; rfl, 0, rfl⟩

set_option maxHeartbeats 1000000 in
theorem same_any (x y : Mat) (n : Nat) (w : World) (h1 : x.In n w) (h2 : y.In n w) :
    Calls Try.prog 90 #[x.val, y.val] w fun e w' => e = .returned (.bool (x.t.same y.t)) ∧ ∃ m, w' = w.drewN m := by
  have HC := hide (equalFunc_any x y n w h1 h2)
  simp only [Mat.val] at HC ⊢
  clear h1 h2
  go_enter Try.func90, Try.ntmps90
  go_wp2_with fail
  go_at_call 155
  refine HC.out.mono ?_
  rintro e w1 ⟨rfl, m, rfl⟩
  go_wp2
  go_ret
  exact ⟨rfl, m, rfl⟩

end Go.Proofs.Ytjhkadffaephmab

/-
  net.Begin.
-/
namespace Go.Proofs.Ytjhkadffaephmab
set_option maxRecDepth 100000
open Go.RowKit

/-- i rows are made, and k numbers of the next. -/
structure MadeJ (lo ob : Nat) (g c : Nat → Nat) (p n : Nat) (Z : Nat → Nat → Int) (i k : Nat) (W : World) : Prop where
  out : Blk W ob (outG g c p n (i + 1)) 22
  base : lo ≤ ob
  rows : ∀ r, r < i → lo ≤ g r ∧ g r < W.heap.size ∧ g r ≠ ob ∧ g r ≠ g i ∧ ∀ j, j < p → W.cell? ⟨g r, j, none⟩ = some (.int .i64 (Z r j))
  cur : Blk W (g i) (rowArr (Z i) p k) 3
  own : lo ≤ g i ∧ g i ≠ ob
  room : c i = p

theorem MadeI.row {lo ob : Nat} {g c : Nat → Nat} {p n : Nat} {Z : Nat → Nat → Int} {i : Nat} {W : World} (h : MadeI lo ob g c p n Z i W) (hlo : lo ≤ W.heap.size) :
    MadeJ lo ob (updN g i W.heap.size) (updN c i p) p n Z i 0 ((W.alloc (.cells (madeCells #[.int .i64 0] p) 3)).setCell ⟨ob, i, none⟩ (.slice (some ⟨W.heap.size, 0, none⟩) p p)) where
  out := by have := (h.out.alloc (.cells (madeCells #[.int .i64 0] p) 3)).set i (.slice (some ⟨W.heap.size, 0, none⟩) p p); rw [outG_set] at this; exact this
  base := h.base
  rows := fun r hr => by
    rw [updN_other g _ (by omega), updN_same]
    obtain ⟨h1, h2, h3, h4⟩ := h.rows r hr
    refine ⟨h1, by simp; omega, h3, by omega, fun j hj => ?_⟩
    rw [cell_other h3, ((Below.refl _ W).alloc (Nat.le_refl _) _).cell (p := ⟨g r, j, none⟩) h2]
    exact h4 j hj
  cur := by
    rw [updN_same, rowArr_zero (Z i) p]
    exact (Blk.new W _ _).other (by have := h.out.lt; omega) _ _
  own := by rw [updN_same]; exact ⟨hlo, by have := h.out.lt; omega⟩
  room := updN_same _ _ _

theorem MadeJ.below {lo ob : Nat} {g c : Nat → Nat} {p n i k : Nat} {Z : Nat → Nat → Int} {W W' : World} (h : MadeJ lo ob g c p n Z i k W) (hb : Below W.heap.size W W') : MadeJ lo ob g c p n Z i k W' where
  out := h.out.below hb h.out.lt
  base := h.base
  rows := fun r hr => by
    obtain ⟨h1, h2, h3, h4, h5⟩ := h.rows r hr
    exact ⟨h1, Nat.lt_of_lt_of_le h2 hb.size, h3, h4, fun j hj => by rw [hb.cell (p := ⟨g r, j, none⟩) h2]; exact h5 j hj⟩
  cur := h.cur.below hb h.cur.lt
  own := h.own
  room := h.room

theorem MadeJ.put {lo ob : Nat} {g c : Nat → Nat} {p n i k : Nat} {Z : Nat → Nat → Int} {W : World} (h : MadeJ lo ob g c p n Z i k W) :
    MadeJ lo ob g c p n Z i (k + 1) (W.setCell ⟨g i, k, none⟩ (.int .i64 (Z i k))) where
  out := h.out.other (Ne.symm h.own.2) _ _
  base := h.base
  rows := fun r hr => by
    obtain ⟨h1, h2, h3, h4, h5⟩ := h.rows r hr
    exact ⟨h1, by simpa using h2, h3, h4, fun j hj => by rw [cell_other h4]; exact h5 j hj⟩
  cur := by have := h.cur.set k (.int .i64 (Z i k)); rw [rowArr_set] at this; exact this
  own := h.own
  room := h.room

theorem MadeJ.done {lo ob : Nat} {g c : Nat → Nat} {p n i : Nat} {Z : Nat → Nat → Int} {W : World} (h : MadeJ lo ob g c p n Z i p W) : MadeI lo ob g c p n Z (i + 1) W where
  out := h.out
  base := h.base
  rows := fun r hr => by
    by_cases e : r = i
    · subst e
      exact ⟨h.own.1, h.cur.lt, h.own.2, fun j hj => by rw [h.cur.cell j, rowArr_get hj, if_pos hj]⟩
    · obtain ⟨h1, h2, h3, _, h5⟩ := h.rows r (by omega)
      exact ⟨h1, h2, h3, h5⟩

/-- What an operation leaves, whatever the world. -/
def valsE (vs : List Value) (k : Nat) (v : Value) (_ : World) : Prop := vs[k]? = some v
theorem valsE_get {vs : List Value} {k : Nat} {v u : Value} {w : World} (h : valsE vs k v w) (hu : vs[k]? = some u) : v = u := by
  unfold valsE at h
  rw [h] at hu
  exact Option.some.inj hu

/-- What stands all through a round of Begin's inner loop. -/
structure BegI (lo : Nat) (w1 : World) (N : Nat) (Z : Nat → Nat → Int) (g c : Nat → Nat) (i k : Nat) (W : World) : Prop where
  below : Below w1.heap.size w1 W
  made : MadeJ lo w1.heap.size g c N N Z i k W

theorem BegI.keep {lo : Nat} {w1 : World} {N : Nat} {Z : Nat → Nat → Int} {g c : Nat → Nat} {i k : Nat} {W W' : World} (h : BegI lo w1 N Z g c i k W) (hb : Below W.heap.size W W') : BegI lo w1 N Z g c i k W' :=
  ⟨h.below.trans (hb.mono h.below.size), h.made.below hb⟩

set_option maxHeartbeats 4000000 in
theorem filled_any (fid : Nat) (cap : Array Value) (N : Nat) (Z : Nat → Nat → Int) (w : World) (hN0 : 1 ≤ N) (hN6 : N ≤ 6)
    (hcf : ∀ (args : Array Value) (W : World), (callFunc fid args).run Try.prog W = .ok (.enter fid args) W)
    (hat : ∀ (i j : Nat) (W : World), i < N → j < N → Below w.heap.size w W → Calls Try.prog fid (#[.int .i64 i, .int .i64 j] ++ cap) W fun e w' => e = .returned (.int .i64 (Z i j)) ∧ Below W.heap.size W w') :
    Calls Try.prog 82 #[.int .i64 N, .func (.func fid) #[] cap] w fun e w' => (∃ m : Mat, e = .returned m.val ∧ Fresh N w.heap.size Z m w') ∧ Below w.heap.size w w' := by
  obtain ⟨i1, hi1, hy0, hy1, hy2⟩ := info_parts Try.infoInt
  obtain ⟨i2, hi2, hx0, hx1, hx2⟩ := info_parts Try.infoInts
  have hmkA : ∀ u : World, (Instr.makeSlice 36 (.int .i64 (N : Int)) (.int .i64 (N : Int))).run Try.prog u = .ok (.slice (some ⟨u.heap.size, 0, none⟩) N N) (u.alloc (.cells (madeCells #[.slice none 0 0] N) 22)) := fun u => by
    have h := run_make (P := Try.prog) u 36 22 i2 (.slice none 0 0) Try.underlying36 hi2 hx0 .i64 .i64 (N : Int) (N : Int) (by omega) (Int.le_refl _) (by rw [hx2]; omega) (by omega)
    simpa [hx1, Value.cells] using h
  have hmkB : ∀ u : World, (Instr.makeSlice 22 (.int .i64 (N : Int)) (.int .i64 (N : Int))).run Try.prog u = .ok (.slice (some ⟨u.heap.size, 0, none⟩) N N) (u.alloc (.cells (madeCells #[.int .i64 0] N) 3)) := fun u => by
    have h := run_make (P := Try.prog) u 22 3 i1 (.int .i64 0) Try.underlying22 hi1 hy0 .i64 .i64 (N : Int) (N : Int) (by omega) (Int.le_refl _) (by rw [hy2]; omega) (by omega)
    simpa [hy1, Value.cells] using h
  have HO := hide hat
  clear hat
  go_enter Try.func82, Try.ntmps82
  go_wp2_with fail
  go_loopw [6, 7, 12] (fun _ _ q wr => ∃ k : Nat, k ≤ N ∧ q = .int .i64 k ∧ Hid (Below w.heap.size w wr) ∧ Hid (∃ g c : Nat → Nat, MadeI w.heap.size w.heap.size g c N N Z k wr)) (fun _ _ q _ => N - (intOf q).toNat)
  case atStart => exact ⟨0, Nat.zero_le _, rfl, hide ((Below.refl _ _).alloc (Nat.le_refl _) _), hide ⟨_, _, MadeI.start w w.heap.size N N Z (by omega)⟩⟩
  case round =>
    obtain ⟨i, hi, rfl, HB, HM⟩ := hrel
    by_cases hlt : i < N
    · obtain ⟨g, c, hM⟩ := HM.out
      have hsz := HB.out.size
      have hMr := hM.row (by omega)
      have o0 : ∀ o, (wr.alloc o).cell? ⟨w.heap.size, i, none⟩ = some (.slice none 0 0) := fun o => by
        have := (hM.out.alloc o).cell i
        rw [outG_get hlt, if_neg (Nat.lt_irrefl _)] at this
        exact this
      have of : ∀ o, (wr.alloc o).frozen? ⟨w.heap.size, i, none⟩ = false := fun o => (hM.out.alloc o).frozen i
      have hii : (i : Int) < (N : Int) := by omega
      have hm0 := hMr.out.cell i
      rw [outG_get hlt, if_pos (by omega), updN_same, updN_same] at hm0
      have HR : Hid (BegI w.heap.size w N Z (updN g i wr.heap.size) (updN c i N) i 0 ((wr.alloc (.cells (madeCells #[.int .i64 0] N) 3)).setCell ⟨w.heap.size, i, none⟩ (.slice (some ⟨wr.heap.size, 0, none⟩) N N))) :=
        hide ⟨(HB.out.alloc HB.out.size _).setCell (p := ⟨w.heap.size, i, none⟩) (Nat.le_refl _) _, hMr⟩
      have Hg : Hid (updN g i wr.heap.size i = wr.heap.size) := hide (updN_same _ _ _)
      generalize updN g i wr.heap.size = g' at *
      generalize updN c i N = c' at *
      clear hM hMr HM
      go_wp2_with fail
      obtain ⟨wq, hwq⟩ : ∃ wq, wq = wr.heap.size := ⟨_, rfl⟩
      clear o0 of hm0
      rw [← hwq] at Hg
      simp only [← hwq] at *
      clear hwq
      go_loopw [7, 25] (fun _ q wx => ∃ k : Nat, k ≤ N ∧ q = .int .i64 k ∧ Hid (BegI w.heap.size w N Z g' c' i k wx)) (fun _ q _ => N - (intOf q).toNat)
      case atStart => exact ⟨0, Nat.zero_le _, rfl, HR⟩
      case round =>
        obtain ⟨k, hk, rfl, HJ⟩ := hrel
        by_cases hkl : k < N
        · have hki : (k : Int) < (N : Int) := by omega
          go_wp2_with fail
          refine wp_region_last 10 _ (BegI w.heap.size w N Z g' c' i k)
            (valsE [.slice (some ⟨w.heap.size, 0, none⟩) N N, .int .i64 i, .pointer (some ⟨w.heap.size, i, none⟩), .slice (some ⟨g' i, 0, none⟩) N N, .int .i64 k, .func (.func fid) #[] cap, .int .i64 i, .int .i64 k, .int .i64 (Z i k), .pointer (some ⟨g' i, k, none⟩)])
            (fun _ W => BegI w.heap.size w N Z g' c' i (k + 1) W) (fun _ _ _ => True) (by kernel_rfl) (by kernel_rfl) (by kernel_rfl) (by kernel_rfl) (by kernel_rfl) rfl (HJ.out.keep ⟨rfl, rfl, rfl, Nat.le_refl _, fun _ _ => rfl⟩) ⟨?_, ?_, ?_, ?_, ?_, ?_, ?_, ?_, ?_, ?_, trivial⟩ ?_ trivial ?_
          rotate_right
          · intro t W hG _
            have HG := hide hG
            clear hG
            simp only [fill, Act.put, List.setIfInBounds_toArray, List.set_cons_zero, List.set_cons_succ]
            go_wp2
            go_roundw
            case rel =>
              first
              | exact ⟨k + 1, by omega, by go_num, HG⟩
              | ((repeat apply Exists.intro); refine ⟨?_, rfl⟩; exact ⟨k + 1, by omega, by go_num, HG⟩)
            case measure => simp [intOf]; omega
          rotate_right
          · intro t W hG hE _ K hK
            have e8 := valsE_get (hE 8 (by omega)) rfl
            have e9 := valsE_get (hE 9 (by omega)) rfl
            have c1 := hG.made.cur.cell k
            rw [rowArr_get hkl, if_neg (Nat.lt_irrefl _)] at c1
            have cf := hG.made.cur.frozen k
            have hN' : BegI w.heap.size w N Z g' c' i (k + 1) (W.setCell ⟨g' i, k, none⟩ (.int .i64 (Z i k))) := ⟨hG.below.setCell (p := ⟨g' i, k, none⟩) (by rw [Hg.out]; exact hsz) _, hG.made.put⟩
            simp only [fill, Act.put, List.setIfInBounds_toArray, List.set_cons_zero, List.set_cons_succ, e8, e9] at hK ⊢
            rw [if_pos (by rfl)]
            go_simp
            exact hK undef _ hN'
          all_goals intro t W hG hp _ K hK
          all_goals simp only [fill, Act.put, List.setIfInBounds_toArray, List.set_cons_zero, List.set_cons_succ] at hK ⊢
          all_goals rw [if_pos (by rfl)]
          · go_simp
            exact hK _ W hG rfl (fun _ _ _ h => h)
          · go_simp
            exact hK _ W hG rfl (fun _ _ _ h => h)
          · have e0 := valsE_get (hp 0 (by decide)) rfl
            have e1 := valsE_get (hp 1 (by decide)) rfl
            simp only [e0, e1] at hK ⊢
            go_simp
            exact hK _ W hG rfl (fun _ _ _ h => h)
          · have e2 := valsE_get (hp 2 (by decide)) rfl
            have c1 := hG.made.out.cell i
            rw [outG_get hlt, if_pos (by omega), hG.made.room] at c1
            simp only [e2] at hK ⊢
            go_simp
            exact hK _ W hG rfl (fun _ _ _ h => h)
          · go_simp
            exact hK _ W hG rfl (fun _ _ _ h => h)
          · go_simp
            exact hK _ W hG rfl (fun _ _ _ h => h)
          · go_simp
            exact hK _ W hG rfl (fun _ _ _ h => h)
          · go_simp
            exact hK _ W hG rfl (fun _ _ _ h => h)
          · have e5 := valsE_get (hp 5 (by decide)) rfl
            have e6 := valsE_get (hp 6 (by decide)) rfl
            have e7 := valsE_get (hp 7 (by decide)) rfl
            simp only [e5, e6, e7] at hK ⊢
            go_simp
            refine (HO.out i k W hlt hkl hG.below).mono ?_
            rintro e W' ⟨rfl, hb⟩
            go_simp
            exact hK _ W' (hG.keep hb) rfl (fun _ _ _ h => h)
          · have e3 := valsE_get (hp 3 (by decide)) rfl
            have e4 := valsE_get (hp 4 (by decide)) rfl
            simp only [e3, e4] at hK ⊢
            go_simp
            exact hK _ W hG rfl (fun _ _ _ h => h)
        · have hkn : k = N := by omega
          subst hkn
          have HD : Hid (∃ g c : Nat → Nat, MadeI w.heap.size w.heap.size g c k k Z (i + 1) wr) := hide ⟨_, _, HJ.out.made.done⟩
          have HBn := hide HJ.out.below
          go_wp2
          go_roundw
          case rel =>
            first
            | exact ⟨i + 1, by omega, by go_num, HBn, HD⟩
            | ((repeat apply Exists.intro); refine ⟨?_, rfl⟩; exact ⟨i + 1, by omega, by go_num, HBn, HD⟩)
          case measure => simp [intOf]; omega
    · have hin : i = N := by omega
      subst hin
      obtain ⟨g, c, hM⟩ := HM.out
      obtain ⟨m, e1, e2, e3, e4⟩ := hM.mat (by omega) (by omega)
      have HF : Hid (Fresh i w.heap.size Z m wr) := hide ⟨e2, e3, e4⟩
      have He := hide e1
      clear hM e1 e2 e3 e4 HM
      go_wp2
      go_ret
      exact ⟨⟨m, congrArg Ending.returned He.out, HF.out⟩, HB.out⟩

theorem calls_begin1 (args : Array Value) (W : World) : (callFunc 83 args).run Try.prog W = .ok (.enter 83 args) W := by rfl

set_option maxHeartbeats 1000000 in
theorem begin1_any (n : NetM) (i j bx : Nat) (w : World) (h0 : 2 ≤ n.a.size) (h1 : n.a.size ≤ 24) (hb : Blk w bx n.cells 41) :
    Calls Try.prog 83 #[.int .i64 i, .int .i64 j, .pointer (some ⟨bx, 0, none⟩)] w fun e w' => e = .returned (.int .i64 (n.net.begin i j)) ∧ Below w.heap.size w w' := by
  have HO := hide (own_any n i j w h0 h1)
  have x0 := hb.cell 0
  have x1 := hb.cell 1
  have x2 := hb.cell 2
  have x3 := hb.cell 3
  have x4 := hb.cell 4
  simp [NetM.cells, Mat.val] at x0 x1 x2 x3 x4
  simp only [NetM.val, NetM.cells, Mat.val] at HO
  clear hb h0 h1
  go_enter Try.func83, Try.ntmps83
  go_wp2_with fail
  go_at_call 84
  refine HO.out.mono ?_
  rintro e w1 ⟨rfl, hb1⟩
  have HB := hide hb1
  clear hb1
  go_wp2
  go_ret
  exact ⟨rfl, HB.out⟩

set_option maxHeartbeats 4000000 in
theorem netBegin_ok (n : NetM) (w : World) (h : n.In w.heap.size w) (hck : n.net.check = 0) :
    Calls Try.prog 28 #[n.val] w fun e w' => (∃ m : Mat, e = .returned (.tuple #[m.val, .int .i64 0]) ∧ Fresh n.net.N w.heap.size n.net.begin m w') ∧ Below w.heap.size w w' := by
  have g := Net.good_of_check hck
  have lo := g.lo
  have hi6 := g.hi
  have hs0 : 2 ≤ n.a.size := g.law.good.lo
  have hs1 : n.a.size ≤ 24 := g.law.good.hi
  obtain ⟨N, hN⟩ : ∃ N : Nat, n.nodes = N := ⟨n.nodes.toNat, by have : n.net.nodes = n.nodes := rfl; omega⟩
  have hNN : n.net.N = N := by show n.nodes.toNat = N; omega
  have hN6 : N ≤ 6 := by have : n.net.nodes = n.nodes := rfl; omega
  have hN1 : 1 ≤ N := by have : n.net.nodes = n.nodes := rfl; omega
  have hB0 : Below w.heap.size w (w.alloc (.cells n.cells 41)) := (Below.refl _ w).alloc (Nat.le_refl _) _
  have HC := hide (netCheck_any n _ (h.grown hB0))
  rw [hck] at HC
  have hcells : n.cells = #[.int .i64 n.a.size, .slice n.a.B.ga n.a.B.t.len n.a.B.cap, .slice n.a.E.ga n.a.E.t.len n.a.E.cap, .int .i64 N, .slice n.la n.ln n.lc] := by simp only [NetM.cells, Mat.val, hN]
  have HO := hide (fun i j bx W (hb : Blk W bx n.cells 41) => begin1_any n i j bx W hs0 hs1 hb)
  have HNN := hide hNN
  simp only [NetM.val, hcells] at HC ⊢
  have Hcells := hide hcells
  clear hN hcells h hck hNN lo hi6 g hB0
  go_enter Try.func28, Try.ntmps28
  go_wp2_with fail
  go_at_call 70
  refine HC.out.mono ?_
  rintro e w1 ⟨rfl, hb1⟩
  have b1 := (Blk.new w n.cells 41).below (W' := w1) (by rw [Hcells.out]; exact hb1) (by simp)
  have hB1 : Below w.heap.size w w1 := ((Below.refl _ w).alloc (Nat.le_refl _) _).trans (hb1.mono (by simp))
  have x3 := b1.cell 3
  simp [Hcells.out] at x3
  have HFl := hide (filled_any 83 #[.pointer (some ⟨w.heap.size, 0, none⟩)] N n.net.begin w1 hN1 hN6 calls_begin1 (fun i j W _ _ hb => HO.out i j w.heap.size W (b1.below hb b1.lt)))
  have HB1 := hide hB1
  clear HC hb1 b1 hB1 HO
  go_wp2_with fail
  go_at_call 82
  refine HFl.out.mono ?_
  rintro e w2 ⟨⟨m, rfl, hm⟩, hb2⟩
  have HBw := hide (HB1.out.trans (hb2.mono HB1.out.size))
  have HF : Hid (Fresh n.net.N w.heap.size n.net.begin m w2) := hide (by rw [HNN.out]; exact ⟨hm.1, hm.2.1, hm.2.2.mono HB1.out.size⟩)
  clear hm hb2 HFl
  simp only [Mat.val]
  go_wp2
  refine bodyPost_ret (v := .tuple #[.slice m.ga m.t.len m.cap, .int .i64 0]) (by simp [results, Try.results28, go_sem]) rfl ⟨⟨m, rfl, HF.out⟩, HBw.out⟩

set_option maxHeartbeats 1000000 in
theorem netBegin_bad (n : NetM) (w : World) (h : n.In w.heap.size w) (hck : n.net.check ≠ 0) :
    Calls Try.prog 28 #[n.val] w fun e w' => e = .returned (.tuple #[.slice none 0 0, .int .i64 n.net.check]) ∧ Below w.heap.size w w' := by
  have hB0 : Below w.heap.size w (w.alloc (.cells n.cells 41)) := (Below.refl _ w).alloc (Nat.le_refl _) _
  have HF := hide (netCheck_any n _ (h.grown hB0))
  generalize n.net.check = ft at *
  have hf' : (ft != 0) = true := by simp [hck]
  clear hck h
  simp only [NetM.val, NetM.cells, Mat.val] at *
  go_enter Try.func28, Try.ntmps28
  go_wp2_with fail
  go_at_call 70
  refine HF.out.mono ?_
  rintro e w1 ⟨rfl, hb1⟩
  have HB := hide (hB0.trans (hb1.mono hB0.size))
  clear HF hb1 hB0
  go_wp2
  exact bodyPost_ret (v := .tuple #[.slice none 0 0, .int .i64 ft]) (by simp [results, Try.results28, go_sem]) rfl ⟨rfl, HB.out⟩

end Go.Proofs.Ytjhkadffaephmab

/-
  net.Settle.
-/
namespace Go.Proofs.Ytjhkadffaephmab
set_option maxRecDepth 100000
open Go.RowKit

theorem Net.same_tab {n : Net} {x y : Nat → Nat → Int} : Tab.same ⟨n.N, fun _ => n.N, x⟩ ⟨n.N, fun _ => n.N, y⟩ = n.same x y := by
  rw [Bool.eq_iff_iff, Tab.same_iff, Net.same_iff]
  exact ⟨fun h i j hi hj => (h.2 i hi).2 j hj, fun h => ⟨rfl, fun i hi => ⟨rfl, fun j hj => h i j hi hj⟩⟩⟩

theorem Fresh.is {n : Net} {lo : Nat} {Z : Nat → Nat → Int} {m : Mat} {W : World} (h : Fresh n.N lo Z m W) (hs : n.State Z) : n.Is m.t := by
  rw [h.1]
  exact Net.Is.mk' hs
theorem Fresh.grown {N lo : Nat} {Z : Nat → Nat → Int} {m : Mat} {W W' : World} (h : Fresh N lo Z m W) (hb : Below W.heap.size W W') : Fresh N lo Z m W' := ⟨h.1, h.2.1.grown hb, h.2.2⟩
theorem Fresh.mono {N lo lo' : Nat} {Z : Nat → Nat → Int} {m : Mat} {W : World} (h : Fresh N lo Z m W) (hl : lo' ≤ lo) : Fresh N lo' Z m W := ⟨h.1, h.2.1, h.2.2.mono hl⟩

/-- So many rounds were made: what is left to do comes to the same. -/
def Net.Left (n : Net) (M : Nat) (X : Nat → Nat → Int) (k : Nat) (Y : Nat → Nat → Int) : Prop := n.settle M X = ((n.settle (M - k) Y).1, (n.settle (M - k) Y).2 + k)
theorem Net.Left.next {n : Net} {M k : Nat} {X Y : Nat → Nat → Int} (h : n.Left M X k Y) (hk : k < M) (hs : n.same Y (n.round Y) = false) : n.Left M X (k + 1) (n.round Y) := by
  unfold Net.Left at *
  rw [show M - k = (M - (k + 1)) + 1 by omega, Net.settle, if_neg (by simp [hs])] at h
  rw [h]
  simp only [Prod.mk.injEq, true_and]
  omega
theorem Net.Left.stop {n : Net} {M k : Nat} {X Y : Nat → Nat → Int} (h : n.Left M X k Y) (hs : k = M ∨ n.same Y (n.round Y) = true) : n.settle M X = (Y, k) := by
  unfold Net.Left at h
  rw [h]
  rcases hs with e | e
  · rw [show M - k = 0 by omega, Net.settle]
    simp
  · cases M - k with
    | zero => rw [Net.settle]; simp
    | succ q => rw [Net.settle, if_pos e]; simp

set_option maxHeartbeats 4000000 in
theorem settleInt_any (f1 f2 : Nat) (cap1 cap2 : Array Value) (n : Net) (g : n.Good) (M lo : Nat) (m0 : Mat) (X : Nat → Nat → Int) (w : World) (hm0 : Fresh n.N lo X m0 w) (hX : n.State X) (hM : M ≤ 1000)
    (hcf1 : ∀ (args : Array Value) (W : World), (callFunc f1 args).run Try.prog W = .ok (.enter f1 args) W)
    (hcf2 : ∀ (args : Array Value) (W : World), (callFunc f2 args).run Try.prog W = .ok (.enter f2 args) W)
    (hr : ∀ (m : Mat) (Y : Nat → Nat → Int) (W : World), Below w.heap.size w W → Fresh n.N lo Y m W → n.State Y → Calls Try.prog f1 (#[m.val] ++ cap1) W fun e w' => (∃ m2 : Mat, e = .returned m2.val ∧ Fresh n.N lo (n.round Y) m2 w') ∧ Below W.heap.size W w')
    (hsm : ∀ (m m2 : Mat) (W : World), m.In W.heap.size W → m2.In W.heap.size W → Calls Try.prog f2 (#[m.val, m2.val] ++ cap2) W fun e w' => e = .returned (.bool (m.t.same m2.t)) ∧ ∃ q, w' = W.drewN q) :
    Calls Try.prog 86 #[m0.val, .int .i64 M, .func (.func f1) #[] cap1, .func (.func f2) #[] cap2] w fun e w' => (∃ m : Mat, e = .returned (.tuple #[m.val, .int .i64 ((n.settle M X).2 : Nat)]) ∧ Fresh n.N lo (n.settle M X).1 m w') ∧ Below w.heap.size w w' := by
  have HRd := hide hr
  have HSm0 := hide hsm
  have HSt := hide (fun (Y : Nat → Nat → Int) (hs : n.State Y) => hs.round g)
  have HX := hide hX
  have HM0 := hide hm0
  simp only [Mat.val] at HRd HSm0 ⊢
  clear hr hsm hX hm0 g
  go_enter Try.func86, Try.ntmps86
  go_wp2_with fail
  go_loopw [0, 10, 11, 13] (fun s c _ q wr => ∃ (k : Nat) (m : Mat) (Y : Nat → Nat → Int), k ≤ M ∧ q = .int .i64 k ∧ c = .int .i64 k ∧ s = .slice m.ga m.t.len m.cap ∧ Hid (Fresh n.N lo Y m wr) ∧ Hid (n.State Y) ∧ Hid (n.Left M X k Y) ∧ Hid (Below w.heap.size w wr)) (fun _ _ _ q _ => M - (intOf q).toNat)
  case atStart => exact ⟨0, m0, X, Nat.zero_le _, rfl, rfl, rfl, HM0, HX, hide rfl, hide (Below.refl _ _)⟩
  case round =>
    obtain ⟨k, m, Y, hk, rfl, rfl, rfl, HM, HY, HL, HB⟩ := hrel
    by_cases hlt : k < M
    · have hki : (k : Int) < (M : Int) := by omega
      have HR1 := hide (HRd.out m Y wr HB.out HM.out HY.out)
      go_wp2_with fail
      refine HR1.out.mono ?_
      rintro e w3 ⟨⟨m2, rfl, hm2⟩, hb3⟩
      have HM2 := hide hm2
      have HM1 := hide (HM.out.grown hb3)
      have Hsm : Hid (m.t.same m2.t = n.same Y (n.round Y)) := hide (by rw [HM.out.1, hm2.1]; exact Net.same_tab)
      have HB3 := hide (HB.out.trans (hb3.mono HB.out.size))
      have HSm := hide (HSm0.out m m2 w3 HM1.out.2.1 HM2.out.2.1)
      clear hm2 hb3 HR1 HB
      go_wp2_with fail
      refine HSm.out.mono ?_
      rintro e w4 ⟨rfl, q, rfl⟩
      cases hs : n.same Y (n.round Y) with
      | true =>
        have hs2 : m.t.same m2.t = true := Hsm.out.trans hs
        have Hst := hide (HL.out.stop (Or.inr hs))
        rw [hs2]
        clear hs hs2 Hsm HL HSm
        go_wp2
        have e2 : (n.settle M X).2 = k := by rw [Hst.out]
        have e3 : (n.settle M X).1 = Y := by rw [Hst.out]
        refine bodyPost_ret (v := .tuple #[.slice m.ga m.t.len m.cap, .int .i64 k]) (by simp [results, Try.results86, go_sem]) rfl ⟨⟨m, by rw [e2], ?_⟩, below_drewN HB3.out _⟩
        rw [e3]
        exact HM1.out.grown (below_drewN (Below.refl _ _) _)
      | false =>
        have hs2 : m.t.same m2.t = false := Hsm.out.trans hs
        have HLn := hide (HL.out.next hlt hs)
        have HYn := hide (HSt.out Y HY.out)
        have HM3 : Hid (Fresh n.N lo (n.round Y) m2 (w3.drewN q)) := hide (HM2.out.grown (below_drewN (Below.refl _ _) _))
        have HB4 := hide (below_drewN HB3.out q)
        rw [hs2]
        clear hs hs2 Hsm HL HSm HM HM1 HM2 HB3
        go_wp2
        go_roundw
        case rel =>
          first
          | exact ⟨k + 1, m2, _, by omega, by go_num, by go_num, rfl, HM3, HYn, HLn, HB4⟩
          | ((repeat apply Exists.intro); refine ⟨?_, rfl⟩; exact ⟨k + 1, m2, _, by omega, by go_num, by go_num, rfl, HM3, HYn, HLn, HB4⟩)
        case measure => simp [intOf]; omega
    · have hkM : k = M := by omega
      have Hst := hide (HL.out.stop (Or.inl hkM))
      have hki : (M : Int) ≤ (k : Int) := by omega
      clear HL
      go_wp2
      have e2 : (n.settle M X).2 = k := by rw [Hst.out]
      have e3 : (n.settle M X).1 = Y := by rw [Hst.out]
      refine bodyPost_ret (v := .tuple #[.slice m.ga m.t.len m.cap, .int .i64 k]) (by simp [results, Try.results86, go_sem]) rfl ⟨⟨m, by rw [e2], ?_⟩, HB.out⟩
      rw [e3]
      exact HM.out

theorem calls_settle1 (args : Array Value) (W : World) : (callFunc 88 args).run Try.prog W = .ok (.enter 88 args) W := by rfl
theorem calls_same (args : Array Value) (W : World) : (callFunc 90 args).run Try.prog W = .ok (.enter 90 args) W := by rfl

set_option maxHeartbeats 1000000 in
theorem settle1_any (n : NetM) (x : Mat) (bx : Nat) (w : World) (h : n.In w.heap.size w) (hx : x.In w.heap.size w) (hck : n.net.check = 0) (his : n.net.Is x.t) (hb : Blk w bx n.cells 41) :
    Calls Try.prog 88 #[x.val, .pointer (some ⟨bx, 0, none⟩)] w fun e w' => (∃ m : Mat, e = .returned m.val ∧ Fresh n.net.N w.heap.size (n.net.round x.t.Z) m w') ∧ Below w.heap.size w w' := by
  have HO := hide (round_any n x w h hx hck his)
  have x0 := hb.cell 0
  have x1 := hb.cell 1
  have x2 := hb.cell 2
  have x3 := hb.cell 3
  have x4 := hb.cell 4
  simp [NetM.cells, Mat.val] at x0 x1 x2 x3 x4
  simp only [NetM.val, NetM.cells, Mat.val] at HO ⊢
  clear hb h hx hck his
  go_enter Try.func88, Try.ntmps88
  go_wp2_with fail
  go_at_call 89
  refine HO.out.mono ?_
  rintro e w1 ⟨⟨m, rfl, hm⟩, hb1⟩
  have HB := hide hb1
  have HM := hide hm
  clear hb1 hm HO
  go_wp2
  go_ret
  exact ⟨⟨m, rfl, HM.out⟩, HB.out⟩

set_option maxHeartbeats 4000000 in
theorem netSettle_ok (n : NetM) (x : Mat) (M : Nat) (w : World) (h : n.In w.heap.size w) (hx : x.In w.heap.size w) (hf : n.net.fit x.t = 0) (hM : M ≤ 1000) :
    Calls Try.prog 29 #[n.val, x.val, .int .i64 M] w fun e w' => (∃ m : Mat, e = .returned (.tuple #[m.val, .int .i64 ((n.net.settle M x.t.Z).2 : Nat), .int .i64 0]) ∧ Fresh n.net.N w.heap.size (n.net.settle M x.t.Z).1 m w') ∧ Below w.heap.size w w' := by
  have hB0 : Below w.heap.size w (w.alloc (.cells n.cells 41)) := (Below.refl _ w).alloc (Nat.le_refl _) _
  have b0 := Blk.new w n.cells 41
  have HF := hide (netFit_any n x _ (h.grown hB0) (hx.grown hB0))
  rw [hf] at HF
  obtain ⟨hc, hi⟩ := Net.is_of_fit hf
  have g := Net.good_of_check hc
  have hN6 : n.net.N ≤ 6 := by have := g.hi; unfold Net.N; omega
  have HCp := hide (fun W (hb : Below w.heap.size w W) => copy_any x n.net.N W (hx.grown hb) hi.len hi.wide (by omega))
  have HSt := hide (fun (m0 : Mat) (W : World) (hb : Below w.heap.size w W) (b : Blk W w.heap.size n.cells 41) (hm0 : Fresh n.net.N w.heap.size x.t.Z m0 W) =>
    settleInt_any 88 90 #[.pointer (some ⟨w.heap.size, 0, none⟩)] #[] n.net g M w.heap.size m0 x.t.Z W hm0 hi.state hM calls_settle1 calls_same (fun m Y W' hb' hm hs => by
      have hB := hb.trans (hb'.mono hb.size)
      refine (settle1_any n m w.heap.size W' (h.grown hB) hm.2.1 hc (hm.is hs) (b.below hb' b.lt)).mono ?_
      rintro e w2 ⟨⟨m2, rfl, hm2⟩, hb2⟩
      have e1 : m.t.Z = Y := by rw [hm.1]
      rw [e1] at hm2
      exact ⟨⟨m2, rfl, hm2.mono hB.size⟩, hb2⟩) (fun m m2 W' h1 h2 => same_any m m2 W'.heap.size W' h1 h2))
  clear hf hc hi h hx g
  simp only [NetM.val, NetM.cells, Mat.val] at HF HCp HSt ⊢
  simp only [NetM.cells, Mat.val] at b0 hB0
  go_enter Try.func29, Try.ntmps29
  go_wp2_with fail
  go_at_call 85
  refine HF.out.mono ?_
  rintro e w1 ⟨rfl, hb1⟩
  have hB1 := hB0.trans (hb1.mono hB0.size)
  have b1 := b0.below hb1 b0.lt
  have HC1 := hide (HCp.out w1 hB1)
  have hMi : (M : Int) ≤ 1000 := by omega
  clear HF HCp b0 hb1 hB0
  go_wp2_with fail
  go_at_call 87
  refine HC1.out.mono ?_
  rintro e w2 ⟨⟨m0, rfl, hm0⟩, hb2⟩
  have hB2 := hB1.trans (hb2.mono hB1.size)
  have b2 := b1.below hb2 b1.lt
  have HS1 := hide (HSt.out m0 w2 hB2 b2 (hm0.mono hB1.size))
  have HB2 := hide hB2
  clear hm0 hb2 HC1 hB2 hB1 b1 b2 HSt
  go_wp2_with fail
  go_at_call 86
  refine HS1.out.mono ?_
  rintro e w3 ⟨⟨m, rfl, hm⟩, hb3⟩
  have HM := hide hm
  have HB3 := hide (HB2.out.trans (hb3.mono HB2.out.size))
  clear hm hb3 HS1 HB2
  go_wp2
  exact bodyPost_ret (v := .tuple #[.slice m.ga m.t.len m.cap, .int .i64 ((n.net.settle M x.t.Z).2 : Nat), .int .i64 0]) (by simp [results, Try.results29, go_sem]) rfl ⟨⟨m, rfl, HM.out⟩, HB3.out⟩

/-- What Settle answers besides: an error. -/
def Net.settleE (n : Net) (t : Tab) (most : Int) : Int := if n.fit t ≠ 0 then n.fit t else if most < 0 ∨ 1000 < most then 3 else 0

set_option maxHeartbeats 1000000 in
theorem netSettle_bad (n : NetM) (x : Mat) (most : Int) (w : World) (h : n.In w.heap.size w) (hx : x.In w.heap.size w) (hf : n.net.settleE x.t most ≠ 0) :
    Calls Try.prog 29 #[n.val, x.val, .int .i64 most] w fun e w' => e = .returned (.tuple #[.slice none 0 0, .int .i64 0, .int .i64 (n.net.settleE x.t most)]) ∧ Below w.heap.size w w' := by
  have hB0 : Below w.heap.size w (w.alloc (.cells n.cells 41)) := (Below.refl _ w).alloc (Nat.le_refl _) _
  have HF := hide (netFit_any n x _ (h.grown hB0) (hx.grown hB0))
  have Hd : Hid (n.net.settleE x.t most = if n.net.fit x.t ≠ 0 then n.net.fit x.t else if most < 0 ∨ 1000 < most then 3 else 0) := hide rfl
  generalize n.net.fit x.t = ft at *
  simp only [NetM.val, NetM.cells, Mat.val] at *
  by_cases hft : ft = 0
  · subst hft
    have hmo : most < 0 ∨ 1000 < most := by
      apply Classical.byContradiction
      intro hn
      rw [Hd.out] at hf
      simp [hn] at hf
    have He : Hid (n.net.settleE x.t most = 3) := hide (by rw [Hd.out]; simp [hmo])
    clear Hd hf h hx
    by_cases h0 : most < 0
    · clear hmo
      go_enter Try.func29, Try.ntmps29
      go_wp2_with fail
      go_at_call 85
      refine HF.out.mono ?_
      rintro e w1 ⟨rfl, hb1⟩
      have HB := hide (hB0.trans (hb1.mono hB0.size))
      clear HF hb1 hB0
      go_wp2
      exact bodyPost_ret (v := .tuple #[.slice none 0 0, .int .i64 0, .int .i64 3]) (by simp [results, Try.results29, go_sem]) rfl ⟨by rw [He.out], HB.out⟩
    · have h1 : 1000 < most := by omega
      clear hmo
      go_enter Try.func29, Try.ntmps29
      go_wp2_with fail
      go_at_call 85
      refine HF.out.mono ?_
      rintro e w1 ⟨rfl, hb1⟩
      have HB := hide (hB0.trans (hb1.mono hB0.size))
      clear HF hb1 hB0
      go_wp2
      exact bodyPost_ret (v := .tuple #[.slice none 0 0, .int .i64 0, .int .i64 3]) (by simp [results, Try.results29, go_sem]) rfl ⟨by rw [He.out], HB.out⟩
  · have He : Hid (n.net.settleE x.t most = ft) := hide (by rw [Hd.out]; simp [hft])
    have hf' : (ft != 0) = true := by simp [hft]
    clear Hd hf h hx hft
    go_enter Try.func29, Try.ntmps29
    go_wp2_with fail
    go_at_call 85
    refine HF.out.mono ?_
    rintro e w1 ⟨rfl, hb1⟩
    have HB := hide (hB0.trans (hb1.mono hB0.size))
    clear HF hb1 hB0
    go_wp2
    exact bodyPost_ret (v := .tuple #[.slice none 0 0, .int .i64 0, .int .i64 ft]) (by simp [results, Try.results29, go_sem]) rfl ⟨by rw [He.out], HB.out⟩

end Go.Proofs.Ytjhkadffaephmab
