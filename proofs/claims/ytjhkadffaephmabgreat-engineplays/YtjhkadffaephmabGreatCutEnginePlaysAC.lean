/-
  Our own texts, bundled: a claim holds few files.
-/
import Derived.Test.YtjhkadffaephmabGreatCutEnginePlaysAB
import Derived.Deep.RegionWith
import Derived.Deep.CutRange
/-
  algebra.firstBroken, Laws, Strict, Distributive.
-/
namespace Go.Proofs.YtjhkadffaephmabGreat
open Go.RowKit

theorem namesAt_below {w w' : World} {b k : Nat} (h : World.namesAt w b) (hb : Below k w w') (hk : b < k) : World.namesAt w' b := by
  obtain ⟨es, clock, h1, h2⟩ := h
  exact ⟨es, clock, (hb.block b hk).trans h1, h2⟩

theorem names_lookup {w : World} {b : Nat} {l : Int} (h : World.namesAt w b) (l0 : 1 ≤ l) (l1 : l ≤ 9) :
    (Instr.lookup 136 (.map (some b)) (.int .i64 l) false).run Tryz.prog w = .ok (.agg #[.int .i64 (routesOf l), .int .i64 (edgesOf l)]) w := by
  have hw : (Lit.int .i64 l).wf = true := WalkArith.wf_i64 (by omega)
  obtain ⟨v, ps, hrun, hv⟩ := World.ownsMap.lookup h law3 Tryz.underlying136 (zeroE w) (pairElem_mk 0 0) (keyInt hw)
  rw [namesD_at l l0 l1] at hv
  rw [hrun, pairElem_inv hv]

/-- The first broken one of several laws. -/
def Alg.firstOf (a : Alg) : List Int → Brk
  | [] => Brk.none
  | l :: r => if (a.first (a.casesOf l)).same Brk.none = true then a.firstOf r else a.first (a.casesOf l)

theorem firstOf_go {a : Alg} {l : Int} {r : List Int} (h : a.first (a.casesOf l) = Brk.none) : a.firstOf (l :: r) = a.firstOf r := by
  simp only [Alg.firstOf]; rw [if_pos (Brk.same_iff.2 h)]
theorem firstOf_stop {a : Alg} {l : Int} {r : List Int} (h : a.first (a.casesOf l) ≠ Brk.none) : a.firstOf (l :: r) = a.first (a.casesOf l) := by
  simp only [Alg.firstOf]; rw [if_neg (fun e => h (Brk.same_iff.1 e))]

theorem firstOf_append_none {a : Alg} {xs ys : List Int} (h : ∀ l ∈ xs, a.first (a.casesOf l) = Brk.none) : a.firstOf (xs ++ ys) = a.firstOf ys := by
  induction xs with
  | nil => rfl
  | cons x xs ih =>
    rw [List.cons_append, firstOf_go (h x (by simp)), ih (fun l hl => h l (by simp [hl]))]

theorem firstOf_at {a : Alg} {ls : List Int} {k : Nat} (hk : k < ls.length) (h : ∀ i, (hi : i < k) → a.first (a.casesOf (ls[i]'(by omega))) = Brk.none) (hn : a.first (a.casesOf ls[k]) ≠ Brk.none) : a.firstOf ls = a.first (a.casesOf ls[k]) := by
  have hs : ls.take k ++ (ls[k] :: ls.drop (k + 1)) = ls := by rw [← List.drop_eq_getElem_cons hk, List.take_append_drop]
  have h1 := firstOf_append_none (a := a) (xs := ls.take k) (ys := ls[k] :: ls.drop (k + 1)) (fun l hl => by
    obtain ⟨i, hi, rfl⟩ := List.mem_iff_getElem.1 hl
    simp at hi
    simp only [List.getElem_take]
    exact h i (by omega))
  rw [hs] at h1
  rw [h1]
  exact firstOf_stop hn

theorem firstOf_none {a : Alg} {ls : List Int} (h : ∀ i, (hi : i < ls.length) → a.first (a.casesOf ls[i]) = Brk.none) : a.firstOf ls = Brk.none := by
  have := firstOf_append_none (a := a) (xs := ls) (ys := []) (fun l hl => by
    obtain ⟨i, hi, rfl⟩ := List.mem_iff_getElem.1 hl
    exact h i hi)
  simpa [Alg.firstOf] using this

set_option maxHeartbeats 2000000 in
theorem firstBroken_bad (a : AlgM) (bl : Nat) (n : Nat) (w : World) (h : a.In w.heap.size w) (hc : a.alg.check ≠ 0) :
    Calls Tryz.prog 80 #[a.val, .slice (some ⟨bl, 0, none⟩) n n] w fun e w' => e = .returned (.tuple #[Brk.none.val, .int .i64 a.alg.check]) ∧ Below w.heap.size w w' := by
  have hck := fun W (hI : a.In w.heap.size W) (hn : w.heap.size ≤ W.heap.size) => check_any a w.heap.size W hI hn
  generalize a.alg.check = ck at *
  have hne : ((ck : Int) != 0) = true := by simpa using hc
  have HC := hide hck
  clear hck hc
  have hb0 : Below w.heap.size w ((w.alloc (.cells #[.int .i64 a.size, a.B.val, a.E.val] 24)).alloc (.cells #[.int .i64 0, .int .i64 0, .int .i64 0, .int .i64 0, .int .i64 0] 93)) :=
    ((Below.refl _ w).alloc (Nat.le_refl _) _).alloc (by simp) _
  have bR := Blk.new (w.alloc (.cells #[.int .i64 a.size, a.B.val, a.E.val] 24)) #[.int .i64 0, .int .i64 0, .int .i64 0, .int .i64 0, .int .i64 0] 93
  simp only [World.size_alloc] at bR
  have hI := h.below hb0 (Nat.le_refl _)
  simp only [AlgM.val]
  go_enter Tryz.func80, Tryz.ntmps80
  go_wp2_with fail
  go_at_call 94
  refine (HC.out _ hI (by simp; omega)).mono ?_
  rintro e w1 ⟨rfl, hb1⟩
  have bR1 := bR.below hb1 (by simp)
  have dR0 := bR1.cell 0
  have dR1 := bR1.cell 1
  have dR2 := bR1.cell 2
  have dR3 := bR1.cell 3
  have dR4 := bR1.cell 4
  have fR := bR1.frozen
  simp at dR0 dR1 dR2 dR3 dR4
  go_wp2
  have bR2 := bR1.set5 (.int .i64 0) (.int .i64 0) (.int .i64 0) (.int .i64 0) (.int .i64 0)
  have e0 := bR2.cell 0
  have e1 := bR2.cell 1
  have e2 := bR2.cell 2
  have e3 := bR2.cell 3
  have e4 := bR2.cell 4
  unfold YtjhkadffaephmabGreat.set5 at e0 e1 e2 e3 e4
  simp at e0 e1 e2 e3 e4
  refine bodyPost_ret (v := .tuple #[Brk.none.val, .int .i64 ck]) (by simp [results, Tryz.results80, go_sem, e0, e1, e2, e3, e4, Brk.val, Brk.none]) rfl ⟨rfl, ?_⟩
  exact below5 (hb0.trans (hb1.mono (by simp; omega))) (by omega) _ _ _ _ _

theorem first_law {a : Alg} {l : Int} (h : a.first (a.casesOf l) ≠ Brk.none) : (a.first (a.casesOf l)).law = l := by
  unfold Alg.first at h ⊢
  cases hf : (a.casesOf l).find? (fun b => !a.holds b) with
  | none => rw [hf] at h; exact absurd rfl h
  | some b =>
    have hm := List.mem_of_find?_eq_some hf
    exact (mem_casesA hm).1

set_option maxHeartbeats 4000000 in
theorem firstBroken_good (a : AlgM) (g : a.alg.Good) (ls : List Int) (hls : ∀ l ∈ ls, 1 ≤ l ∧ l ≤ 9) (hlen : ls.length ≤ 100) (bl : Nat) (w : World) (h : a.In w.heap.size w) (hbl : bl < w.heap.size)
    (hcl : ∀ i, (hi : i < ls.length) → w.cell? ⟨bl, i, none⟩ = some (.int .i64 ls[i])) :
    Calls Tryz.prog 80 #[a.val, .slice (some ⟨bl, 0, none⟩) ls.length ls.length] w fun e w' => e = .returned (.tuple #[(a.alg.firstOf ls).val, .int .i64 0]) ∧ Below w.heap.size w w' := by
  have hck := fun W (hI : a.In w.heap.size W) (hn : w.heap.size ≤ W.heap.size) => check_any a w.heap.size W hI hn
  rw [g.check] at hck
  have HC := hide hck
  have HL := hide hcl
  clear hck hcl
  have hb0 : Below w.heap.size w ((w.alloc (.cells #[.int .i64 a.size, a.B.val, a.E.val] 24)).alloc (.cells #[.int .i64 0, .int .i64 0, .int .i64 0, .int .i64 0, .int .i64 0] 93)) :=
    ((Below.refl _ w).alloc (Nat.le_refl _) _).alloc (by simp) _
  have bA := (Blk.new w #[.int .i64 a.size, a.B.val, a.E.val] 24).alloc (.cells #[.int .i64 0, .int .i64 0, .int .i64 0, .int .i64 0, .int .i64 0] 93)
  have bR := Blk.new (w.alloc (.cells #[.int .i64 a.size, a.B.val, a.E.val] 24)) #[.int .i64 0, .int .i64 0, .int .i64 0, .int .i64 0, .int .i64 0] 93
  simp only [World.size_alloc] at bR
  have hI := h.below hb0 (Nat.le_refl _)
  simp only [AlgM.val]
  go_enter Tryz.func80, Tryz.ntmps80
  go_wp2_with fail
  go_at_call 94
  refine (HC.out _ hI (by simp; omega)).mono ?_
  rintro e w1 ⟨rfl, hb1⟩
  have bA1 := bA.below hb1 (by simp; omega)
  have bR1 := bR.below hb1 (by simp)
  have hB1 := hb0.trans (hb1.mono (by simp; omega))
  have hs1 := hb1.size
  simp only [World.size_alloc] at hs1
  clear hb1 bA bR hb0 hI HC
  go_wp2_with fail
  go_at_call 95
  refine (names_any _).mono ?_
  rintro e w2 ⟨rfl, hm, hb2⟩
  have bA2 := bA1.below hb2 (by omega)
  have bR2 := bR1.below hb2 (by omega)
  have hB2 := hB1.trans (hb2.mono (by omega))
  have hs2 := hb2.size
  have hmb : w1.heap.size < w2.heap.size := hm.lt
  clear hb2 bA1 bR1 hB1
  have HM := hide hm
  clear hm
  go_wp2
  go_loopw [20] (fun i wr => ∃ k : Nat, k ≤ ls.length ∧ i = .int .i64 k ∧ Hid (∀ j, (hj : j < k) → (hj' : j < ls.length) → a.alg.first (a.alg.casesOf ls[j]) = Brk.none) ∧ Hid (Below w2.heap.size w2 wr)) (fun i _ => ls.length - (intOf i).toNat)
  case atStart => exact ⟨0, Nat.zero_le _, rfl, hide (fun j hj => absurd hj (Nat.not_lt_zero _)), hide (Below.refl _ _)⟩
  case round =>
    obtain ⟨k, hk, rfl, Hall, HB⟩ := hrel
    by_cases hlt : k < ls.length
    · have hBw := hB2.trans (HB.out.mono (by omega))
      have hcell : wr.cell? ⟨bl, k, none⟩ = some (.int .i64 ls[k]) := (hBw.cell (p := ⟨bl, k, none⟩) hbl).trans (HL.out k hlt)
      obtain ⟨l0, l1⟩ := hls _ (List.getElem_mem hlt)
      have bA3 := bA2.below HB.out (by omega)
      have bR3 := bR2.below HB.out (by omega)
      have hlook := names_lookup (namesAt_below HM.out HB.out (by omega)) l0 l1
      have hbk := broken_any a g ls[k] l0 l1 wr ((h.below hBw (Nat.le_refl _)).mono hBw.size)
      have cA0 : wr.cell? ⟨w.heap.size, 0, none⟩ = some (.int .i64 a.size) := bA3.cell 0
      have cA1 : wr.cell? ⟨w.heap.size, 1, none⟩ = some a.B.val := bA3.cell 1
      have cA2 : wr.cell? ⟨w.heap.size, 2, none⟩ = some a.E.val := bA3.cell 2
      have Hat : Hid (a.alg.first (a.alg.casesOf ls[k]) ≠ Brk.none → a.alg.firstOf ls = a.alg.first (a.alg.casesOf ls[k])) := hide (fun hn => firstOf_at hlt (fun i hi => Hall.out i hi (by omega)) hn)
      have Hlw : Hid (a.alg.first (a.alg.casesOf ls[k]) ≠ Brk.none → (a.alg.first (a.alg.casesOf ls[k])).law = ls[k]) := hide first_law
      have Hgo : Hid (a.alg.first (a.alg.casesOf ls[k]) = Brk.none → ∀ j, (hj : j < k + 1) → (hj' : j < ls.length) → a.alg.first (a.alg.casesOf ls[j]) = Brk.none) := hide (fun he j hj hj' => by
        by_cases e : j = k
        · subst e; exact he
        · exact Hall.out j (by omega) hj')
      generalize a.alg.first (a.alg.casesOf ls[k]) = fb at *
      generalize ls[k] = l at *
      have HK := hide hbk
      clear hbk
      go_wp2_with fail
      go_at_call 96
      refine HK.out.mono ?_
      rintro e w3 ⟨rfl, hb3⟩
      have bR4 := bR3.below hb3 bR3.lt
      have hs3 := hb3.size
      have hBx := hide (HB.out.trans (hb3.mono HB.out.size))
      have dR0 := bR4.cell 0
      have dR1 := bR4.cell 1
      have dR2 := bR4.cell 2
      have dR3 := bR4.cell 3
      have dR4 := bR4.cell 4
      have fR := bR4.frozen
      simp at dR0 dR1 dR2 dR3 dR4
      have hlw3 : w.heap.size + 1 < w3.heap.size := bR4.lt
      have hBw3 := hide (hBw.trans (hb3.mono hBw.size))
      clear HK bR3 bA3 cA0 cA1 cA2 hlook hcell hb3 hBw bR2 bA2
      by_cases hnone : fb = Brk.none
      · subst hnone
        have Hg2 := hide (Hgo.out rfl)
        clear Hgo Hlw Hat
        simp only [Brk.val, Brk.none]
        go_wp2
        go_roundw
        case rel => exact ⟨k + 1, by omega, by go_num, Hg2, hide (hBx.out.alloc (Nat.le_trans HB.out.size hs3) _)⟩
        case measure => simp [intOf]; omega
      · have Hfin := hide (Hat.out hnone)
        have hfl := Hlw.out hnone
        clear Hgo Hlw Hat hnone
        obtain ⟨fl, fa, fb', fc, fe⟩ := fb
        simp only at hfl
        have hz : (fl == (0 : Int)) = false := by rw [beq_eq_false_iff_ne]; omega
        clear hfl
        simp only [Brk.val]
        go_wp2
        have bR5 := (bR4.set5 (.int .i64 fl) (.int .i64 fa) (.int .i64 fb') (.int .i64 fc) (.int .i64 fe)).alloc (.cells #[.int .i64 fl, .int .i64 fa, .int .i64 fb', .int .i64 fc, .int .i64 fe] 93)
        have e0 := bR5.cell 0
        have e1 := bR5.cell 1
        have e2 := bR5.cell 2
        have e3 := bR5.cell 3
        have e4 := bR5.cell 4
        unfold YtjhkadffaephmabGreat.set5 at e0 e1 e2 e3 e4
        simp at e0 e1 e2 e3 e4
        refine bodyPost_ret (v := .tuple #[Brk.val ⟨fl, fa, fb', fc, fe⟩, .int .i64 0]) (by simp [results, Tryz.results80, go_sem, e0, e1, e2, e3, e4, Brk.val]) rfl ⟨by rw [Hfin.out], ?_⟩
        have hb5 := below5 hBw3.out (show w.heap.size ≤ w.heap.size + 1 by omega) (.int .i64 fl) (.int .i64 fa) (.int .i64 fb') (.int .i64 fc) (.int .i64 fe)
        exact hb5.alloc hb5.size _
    · have Hfin := hide (firstOf_none (a := a.alg) (ls := ls) (fun i hi => Hall.out i (by omega) hi))
      have hBw := hB2.trans (HB.out.mono (by omega))
      have bR3 := bR2.below HB.out (by omega)
      have dR0 := bR3.cell 0
      have dR1 := bR3.cell 1
      have dR2 := bR3.cell 2
      have dR3 := bR3.cell 3
      have dR4 := bR3.cell 4
      have fR := bR3.frozen
      simp at dR0 dR1 dR2 dR3 dR4
      go_wp2
      have bR5 := bR3.set5 (.int .i64 0) (.int .i64 0) (.int .i64 0) (.int .i64 0) (.int .i64 0)
      have e0 := bR5.cell 0
      have e1 := bR5.cell 1
      have e2 := bR5.cell 2
      have e3 := bR5.cell 3
      have e4 := bR5.cell 4
      unfold YtjhkadffaephmabGreat.set5 at e0 e1 e2 e3 e4
      simp at e0 e1 e2 e3 e4
      refine bodyPost_ret (v := .tuple #[Brk.none.val, .int .i64 0]) (by simp [results, Tryz.results80, go_sem, e0, e1, e2, e3, e4, Brk.val, Brk.none]) rfl ⟨by rw [Hfin.out], ?_⟩
      exact below5 hBw (by omega) _ _ _ _ _

/-- What Laws, Strict and Distributive tell. -/
def Alg.tell (a : Alg) (ls : List Int) : Brk := if a.check = 0 then a.firstOf ls else Brk.none

theorem firstBroken_any (a : AlgM) (ls : List Int) (hls : ∀ l ∈ ls, 1 ≤ l ∧ l ≤ 9) (hlen : ls.length ≤ 100) (bl : Nat) (w : World) (h : a.In w.heap.size w) (hbl : bl < w.heap.size)
    (hcl : ∀ i, (hi : i < ls.length) → w.cell? ⟨bl, i, none⟩ = some (.int .i64 ls[i])) :
    Calls Tryz.prog 80 #[a.val, .slice (some ⟨bl, 0, none⟩) ls.length ls.length] w fun e w' => e = .returned (.tuple #[(a.alg.tell ls).val, .int .i64 a.alg.check]) ∧ Below w.heap.size w w' := by
  by_cases hc : a.alg.check = 0
  · have := firstBroken_good a (Alg.good_of_check hc) ls hls hlen bl w h hbl hcl
    simp only [Alg.tell, hc, if_true]
    exact this
  · have := firstBroken_bad a bl ls.length w h hc
    simp only [Alg.tell, hc, if_false]
    exact this

end Go.Proofs.YtjhkadffaephmabGreat

/-
  algebra.Laws, Strict, Distributive.
-/
namespace Go.Proofs.YtjhkadffaephmabGreat
open Go.RowKit


set_option maxHeartbeats 1000000 in
theorem laws_any (a : AlgM) (w : World) (h : a.In w.heap.size w) :
    Calls Tryz.prog 52 #[a.val] w fun e w' => e = .returned (.tuple #[(a.alg.tell [1, 2, 3, 4, 5, 6, 7]).val, .int .i64 a.alg.check]) ∧ Below w.heap.size w w' := by
  have hb0 : Below w.heap.size w (((w.alloc (.cells #[.int .i64 a.size, a.B.val, a.E.val] 24)).alloc (.cells #[.int .i64 0, .int .i64 0, .int .i64 0, .int .i64 0, .int .i64 0] 93)).alloc (.cells #[.int .i64 1, .int .i64 2, .int .i64 3, .int .i64 4, .int .i64 5, .int .i64 6, .int .i64 7] 3)) :=
    (((Below.refl _ w).alloc (Nat.le_refl _) _).alloc (by simp) _).alloc (by simp; omega) _
  have bR := (Blk.new (w.alloc (.cells #[.int .i64 a.size, a.B.val, a.E.val] 24)) #[.int .i64 0, .int .i64 0, .int .i64 0, .int .i64 0, .int .i64 0] 93).alloc (.cells #[.int .i64 1, .int .i64 2, .int .i64 3, .int .i64 4, .int .i64 5, .int .i64 6, .int .i64 7] 3)
  have bL := Blk.new ((w.alloc (.cells #[.int .i64 a.size, a.B.val, a.E.val] 24)).alloc (.cells #[.int .i64 0, .int .i64 0, .int .i64 0, .int .i64 0, .int .i64 0] 93)) #[.int .i64 1, .int .i64 2, .int .i64 3, .int .i64 4, .int .i64 5, .int .i64 6, .int .i64 7] 3
  simp only [World.size_alloc] at bR bL
  have hcall := firstBroken_any a [1, 2, 3, 4, 5, 6, 7] (by decide) (by decide) (w.heap.size + 1 + 1) _ ((h.below hb0 (Nat.le_refl _)).mono hb0.size) bL.lt (fun i hi => by
    rw [bL.cell i]
    match i, hi with
    | 0, _ => rfl
    | 1, _ => rfl
    | 2, _ => rfl
    | 3, _ => rfl
    | 4, _ => rfl
    | 5, _ => rfl
    | 6, _ => rfl)
  have HC := hide hcall
  clear hcall
  generalize a.alg.check = ck at *
  generalize a.alg.tell [1, 2, 3, 4, 5, 6, 7] = fb at *
  simp only [AlgM.val]
  go_enter Tryz.func52, Tryz.ntmps52
  go_wp2_with fail
  go_at_call 80
  refine HC.out.mono ?_
  rintro e w3 ⟨rfl, hb3⟩
  have bR4 := bR.below hb3 bR.lt
  have dR0 := bR4.cell 0
  have dR1 := bR4.cell 1
  have dR2 := bR4.cell 2
  have dR3 := bR4.cell 3
  have dR4 := bR4.cell 4
  have fR := bR4.frozen
  simp at dR0 dR1 dR2 dR3 dR4
  have hBw3 := hide (hb0.trans (hb3.mono hb0.size))
  clear HC hb3
  obtain ⟨fl, fa, fb', fc, fe⟩ := fb
  simp only [Brk.val]
  go_wp2
  have bR5 := bR4.set5 (.int .i64 fl) (.int .i64 fa) (.int .i64 fb') (.int .i64 fc) (.int .i64 fe)
  have e0 := bR5.cell 0
  have e1 := bR5.cell 1
  have e2 := bR5.cell 2
  have e3 := bR5.cell 3
  have e4 := bR5.cell 4
  unfold YtjhkadffaephmabGreat.set5 at e0 e1 e2 e3 e4
  simp at e0 e1 e2 e3 e4
  refine bodyPost_ret (v := .tuple #[Brk.val ⟨fl, fa, fb', fc, fe⟩, .int .i64 ck]) (by simp [results, Tryz.results52, go_sem, e0, e1, e2, e3, e4, Brk.val]) rfl ⟨rfl, ?_⟩
  exact below5 hBw3.out (show w.heap.size ≤ w.heap.size + 1 by omega) _ _ _ _ _

end Go.Proofs.YtjhkadffaephmabGreat

/-
  algebra.Holds.
-/
namespace Go.Proofs.YtjhkadffaephmabGreat
open Go.RowKit

def Alg.fitsB (a : Alg) (b : Brk) : Bool :=
  (decide (0 ≤ b.a) && decide (b.a < spanA a b.law)) && (decide (0 ≤ b.b) && decide (b.b < spanB a b.law)) && (decide (0 ≤ b.c) && decide (b.c < spanC a b.law)) && (decide (0 ≤ b.e) && decide (b.e < spanE a b.law))

theorem Alg.fits_of {a : Alg} {b : Brk} (l0 : 1 ≤ b.law) (l1 : b.law ≤ 9) (h : a.fitsB b = true) : a.Fits b := by
  simp only [Alg.fitsB, Bool.and_eq_true, decide_eq_true_eq] at h
  obtain ⟨⟨⟨⟨h1, h2⟩, h3, h4⟩, h5, h6⟩, h7, h8⟩ := h
  exact ⟨l0, l1, h1, h2, h3, h4, h5, h6, h7, h8⟩

/-- What Holds answers: the errno. -/
def Alg.holdsE (a : Alg) (b : Brk) : Int := if a.check ≠ 0 then a.check else if b.law < 1 ∨ 9 < b.law then 7 else if a.fitsB b = false then 3 else 0
theorem below_dr (w : World) : Below w.heap.size w w.drew := ⟨rfl, rfl, rfl, Nat.le_refl _, fun _ _ => rfl⟩

theorem below_dr' (w : World) (o : Obj) : Below w.heap.size w (w.alloc o).drew := ((Below.refl _ w).alloc (Nat.le_refl _) _).trans ⟨rfl, rfl, rfl, Nat.le_refl _, fun _ _ => rfl⟩

end Go.Proofs.YtjhkadffaephmabGreat

/-
  algebra.Holds at a law: the rest.
-/
namespace Go.Proofs.YtjhkadffaephmabGreat
open Go.RowKit

theorem Blk.set2 {W : World} {B : Nat} {t : TypeId} {u0 u1 : Value} (h : Blk W B #[u0, u1] t) (v0 v1 : Value) : Blk ((W.setCell ⟨B, 0, none⟩ v0).setCell ⟨B, 1, none⟩ v1) B #[v0, v1] t := by
  have := (h.set 0 v0).set 1 v1
  simpa using this

end Go.Proofs.YtjhkadffaephmabGreat

/-
  signpostlaw.hops and algebraBegun: what must be in any case.
-/
namespace Go.Proofs.YtjhkadffaephmabGreat
open Go.RowKit

theorem Blk.new' {W : World} {B : Nat} {vs : Array Value} {t : TypeId} (h : B = W.heap.size) : Blk (W.alloc (.cells vs t)) B vs t := by subst h; exact Blk.new W vs t

def hopsB : Tab := ⟨3, fun _ => 3, fun r c => if r ≤ c then r else c⟩
def hopsE : Tab := ⟨1, fun _ => 3, fun _ c => if c = 0 then 1 else 2⟩
def hopsBM (n : Nat) : Mat := ⟨some ⟨n + 4, 0, none⟩, n + 4, 0, 3, fun r => some ⟨n + 1 + r, 0, none⟩, fun _ => 3, fun r => n + 1 + r, fun _ => 0, hopsB⟩
def hopsEM (n : Nat) : Mat := ⟨some ⟨n + 6, 0, none⟩, n + 6, 0, 1, fun _ => some ⟨n + 5, 0, none⟩, fun _ => 3, fun _ => n + 5, fun _ => 0, hopsE⟩
def hopsM (n : Nat) : AlgM := ⟨3, hopsBM n, hopsEM n⟩
theorem hopsBM_in {n k : Nat} {w : World} (b1 : Blk w (n + 1) #[.int .i64 0, .int .i64 0, .int .i64 0] 3) (b2 : Blk w (n + 2) #[.int .i64 0, .int .i64 1, .int .i64 1] 3) (b3 : Blk w (n + 3) #[.int .i64 0, .int .i64 1, .int .i64 2] 3)
    (b4 : Blk w (n + 4) #[.slice (some ⟨n + 1, 0, none⟩) 3 3, .slice (some ⟨n + 2, 0, none⟩) 3 3, .slice (some ⟨n + 3, 0, none⟩) 3 3] 32) (hk : n + 4 < k) : (hopsBM n).In k w where
  ga := fun _ => rfl
  gb := fun _ => hk
  row := fun r hr => by
    have hr' : r < 3 := hr
    match r, hr' with
    | 0, _ => exact b4.cell 0
    | 1, _ => exact b4.cell 1
    | 2, _ => exact b4.cell 2
  addr := fun r hr _ => ⟨rfl, by have hr' : r < 3 := hr; show n + 1 + r < k; omega⟩
  cell := fun r hr c hc => by
    have hr' : r < 3 := hr
    have hc' : c < 3 := hc
    match r, hr', c, hc' with
    | 0, _, 0, _ => exact b1.cell 0
    | 0, _, 1, _ => exact b1.cell 1
    | 0, _, 2, _ => exact b1.cell 2
    | 1, _, 0, _ => exact b2.cell 0
    | 1, _, 1, _ => exact b2.cell 1
    | 1, _, 2, _ => exact b2.cell 2
    | 2, _, 0, _ => exact b3.cell 0
    | 2, _, 1, _ => exact b3.cell 1
    | 2, _, 2, _ => exact b3.cell 2
  len := by show 3 ≤ maxLen; unfold maxLen; omega
  lens := fun _ _ => by show 3 ≤ maxLen; unfold maxLen; omega

theorem hopsEM_in {n k : Nat} {w : World} (b5 : Blk w (n + 5) #[.int .i64 1, .int .i64 2, .int .i64 2] 3) (b6 : Blk w (n + 6) #[.slice (some ⟨n + 5, 0, none⟩) 3 3] 32) (hk : n + 6 < k) : (hopsEM n).In k w where
  ga := fun _ => rfl
  gb := fun _ => hk
  row := fun r hr => by
    have hr' : r < 1 := hr
    match r, hr' with
    | 0, _ => exact b6.cell 0
  addr := fun r hr _ => ⟨rfl, by show n + 5 < k; omega⟩
  cell := fun r hr c hc => by
    have hc' : c < 3 := hc
    match c, hc' with
    | 0, _ => exact b5.cell 0
    | 1, _ => exact b5.cell 1
    | 2, _ => exact b5.cell 2
  len := by show 1 ≤ maxLen; unfold maxLen; omega
  lens := fun _ _ => by show 3 ≤ maxLen; unfold maxLen; omega

set_option maxHeartbeats 1000000 in
theorem hops_any (w : World) :
    Calls Tryz.prog 67 #[] w fun e w' => e = .returned (hopsM w.heap.size).val ∧ (hopsM w.heap.size).In w'.heap.size w' ∧ Below w.heap.size w w' := by
  go_enter Tryz.func67, Tryz.ntmps67
  go_wp2
  refine bodyPost_ret (v := (hopsM w.heap.size).val) (by simp [results, Tryz.results67, go_sem, hopsM, AlgM.val, Mat.val, hopsBM, hopsEM, hopsB, hopsE]) rfl ⟨rfl, ⟨?_, ?_⟩, ?_⟩
  · refine hopsBM_in ?_ ?_ ?_ ?_ (by simp)
    all_goals repeat (first | exact Blk.new' (by simp) | refine Blk.alloc ?_ _)
  · refine hopsEM_in ?_ ?_ (by simp)
    all_goals repeat (first | exact Blk.new' (by simp) | refine Blk.alloc ?_ _)
  · exact ((((((((Below.refl _ w).alloc (Nat.le_refl _) _).alloc (by simp) _).alloc (by simp; omega) _).alloc (by simp; omega) _).alloc (by simp; omega) _).alloc (by simp; omega) _).alloc (by simp; omega) _)

end Go.Proofs.YtjhkadffaephmabGreat

/-
  Plain mathematics: what is told to be broken does not hold; if nothing is, all hold.
-/
namespace Go.Proofs.YtjhkadffaephmabGreat
open Go.RowKit

theorem Alg.Good.mem_cases {a : Alg} (g : a.Good) {b : Brk} (f : a.Fits b) : b ∈ a.casesOf b.law := by
  obtain ⟨sa, sb, sc, se, ea, eb, ec, ee, hco, _⟩ := g.spans b.law
  rw [hco]
  obtain ⟨l, x, y, z, e⟩ := b
  have h1 := f.a0
  have h2 := f.a1
  have h3 := f.b0
  have h4 := f.b1
  have h5 := f.c0
  have h6 := f.c1
  have h7 := f.e0
  have h8 := f.e1
  simp only at *
  obtain ⟨x, rfl⟩ := Int.eq_ofNat_of_zero_le h1
  obtain ⟨y, rfl⟩ := Int.eq_ofNat_of_zero_le h3
  obtain ⟨z, rfl⟩ := Int.eq_ofNat_of_zero_le h5
  obtain ⟨e, rfl⟩ := Int.eq_ofNat_of_zero_le h7
  exact casesTo_mem l (by omega) (by omega) (by omega) (by omega)

theorem Alg.Good.fits_cases {a : Alg} (g : a.Good) {l : Int} (l0 : 1 ≤ l) (l1 : l ≤ 9) {b : Brk} (h : b ∈ a.casesOf l) : a.Fits b ∧ b.law = l := by
  obtain ⟨sa, sb, sc, se, ea, eb, ec, ee, hco, _⟩ := g.spans l
  rw [hco] at h
  obtain ⟨rfl, ha, hb, hc, he⟩ := mem_casesA h
  exact ⟨⟨l0, l1, ha.1, by omega, hb.1, by omega, hc.1, by omega, he.1, by omega⟩, rfl⟩

theorem first_spec {a : Alg} {l : Int} : a.first (a.casesOf l) = Brk.none ∧ ((a.casesOf l).find? (fun b => !a.holds b) = none ∨ Brk.none ∈ a.casesOf l) ∨ (a.first (a.casesOf l) ∈ a.casesOf l ∧ a.holds (a.first (a.casesOf l)) = false) := by
  unfold Alg.first
  cases hf : (a.casesOf l).find? (fun b => !a.holds b) with
  | none => exact .inl ⟨rfl, .inl rfl⟩
  | some b =>
    have hb := List.find?_some hf
    exact .inr ⟨List.mem_of_find?_eq_some hf, by simpa using hb⟩

theorem firstOf_spec {a : Alg} : ∀ {ls : List Int}, a.firstOf ls ≠ Brk.none → ∃ l ∈ ls, a.firstOf ls = a.first (a.casesOf l) ∧ a.firstOf ls ∈ a.casesOf l ∧ a.holds (a.firstOf ls) = false
  | [], h => absurd rfl h
  | l :: r, h => by
    by_cases hl : a.first (a.casesOf l) = Brk.none
    · have e : a.firstOf (l :: r) = a.firstOf r := firstOf_go hl
      rw [e] at h ⊢
      obtain ⟨l', hm, h1⟩ := firstOf_spec h
      exact ⟨l', by simp [hm], h1⟩
    · have e : a.firstOf (l :: r) = a.first (a.casesOf l) := firstOf_stop hl
      rw [e]
      rcases first_spec (a := a) (l := l) with h1 | h1
      · exact absurd h1.1 hl
      · exact ⟨l, by simp, rfl, h1⟩

theorem firstOf_all {a : Alg} : ∀ {ls : List Int}, (∀ l ∈ ls, 1 ≤ l) → a.firstOf ls = Brk.none → ∀ l ∈ ls, ∀ b ∈ a.casesOf l, a.holds b = true
  | [], _, _, l, hl => absurd hl (by simp)
  | k :: r, hp, h, l, hl => by
    have hk : a.first (a.casesOf k) = Brk.none := by
      by_cases hk : a.first (a.casesOf k) = Brk.none
      · exact hk
      · rw [firstOf_stop hk] at h; exact absurd h hk
    have hr : a.firstOf r = Brk.none := by rw [firstOf_go hk] at h; exact h
    rcases List.mem_cons.1 hl with rfl | hl
    · intro b hb
      cases hh : a.holds b with
      | true => rfl
      | false =>
        exfalso
        have h1 : ((a.casesOf l).find? (fun b => !a.holds b)).isSome = true := by
          rw [List.find?_isSome]; exact ⟨b, hb, by simp [hh]⟩
        obtain ⟨c, hc⟩ := Option.isSome_iff_exists.1 h1
        have hm := List.mem_of_find?_eq_some hc
        have hcl := (mem_casesA hm).1
        unfold Alg.first at hk
        rw [hc] at hk
        have : c = Brk.none := hk
        rw [this] at hcl
        have := hp l (by simp)
        simp [Brk.none] at hcl
        omega
    · exact firstOf_all (fun l hl => hp l (by simp [hl])) hr l hl

theorem holdsE_fit {a : Alg} (hc : a.check = 0) {b : Brk} (f : a.Fits b) : a.holdsE b = 0 := by
  have hf : a.fitsB b = true := by
    simp only [Alg.fitsB, Bool.and_eq_true, decide_eq_true_eq]
    exact ⟨⟨⟨⟨f.a0, f.a1⟩, f.b0, f.b1⟩, f.c0, f.c1⟩, f.e0, f.e1⟩
  have h0 := f.l0
  have h1 := f.l1
  unfold Alg.holdsE
  rw [if_neg (by simp [hc]), if_neg (by omega), hf]; rfl

theorem fit_of_holdsE {a : Alg} {b : Brk} (h : a.holdsE b = 0) : a.check = 0 ∧ a.Fits b := by
  unfold Alg.holdsE at h
  by_cases hc : a.check = 0
  · rw [if_neg (by simp [hc])] at h
    split at h
    · cases h
    · next hl =>
      cases hf : a.fitsB b with
      | false => rw [hf] at h; simp at h
      | true => exact ⟨hc, Alg.fits_of (by omega) (by omega) hf⟩
  · rw [if_pos hc] at h; exact absurd h hc

/-- What is told to be broken: it fits, it does not hold, its law is one of the seven. -/
theorem tell_broken {a : Alg} (hc : a.check = 0) (h : a.tell [1, 2, 3, 4, 5, 6, 7] ≠ Brk.none) :
    a.holdsE (a.tell [1, 2, 3, 4, 5, 6, 7]) = 0 ∧ a.holds (a.tell [1, 2, 3, 4, 5, 6, 7]) = false ∧ 1 ≤ (a.tell [1, 2, 3, 4, 5, 6, 7]).law ∧ (a.tell [1, 2, 3, 4, 5, 6, 7]).law ≤ 7 := by
  have e : a.tell [1, 2, 3, 4, 5, 6, 7] = a.firstOf [1, 2, 3, 4, 5, 6, 7] := by unfold Alg.tell; rw [if_pos hc]
  rw [e] at h ⊢
  obtain ⟨l, hl, h1, h2, h3⟩ := firstOf_spec h
  have hl' : 1 ≤ l ∧ l ≤ 7 := by simp at hl; omega
  have hf := (Alg.good_of_check hc).fits_cases hl'.1 (by omega) h2
  exact ⟨holdsE_fit hc hf.1, h3, by omega, by omega⟩

/-- If nothing is told to be broken, whatever of the seven is asked for holds. -/
theorem tell_none {a : Alg} {b : Brk} (h : a.tell [1, 2, 3, 4, 5, 6, 7] = Brk.none) (he : a.holdsE b = 0) (hl : b.law ≤ 7) : a.holds b = true := by
  obtain ⟨hc, f⟩ := fit_of_holdsE he
  have e : a.tell [1, 2, 3, 4, 5, 6, 7] = a.firstOf [1, 2, 3, 4, 5, 6, 7] := by unfold Alg.tell; rw [if_pos hc]
  rw [e] at h
  have h0 := f.l0
  exact firstOf_all (by decide) h b.law (by simp; omega) b ((Alg.good_of_check hc).mem_cases f)

end Go.Proofs.YtjhkadffaephmabGreat

/-
  Plans: how they lie in memory, and plan.tooMany.
-/
namespace Go.Proofs.YtjhkadffaephmabGreat
open Go.RowKit

/-- Are all numbers from l to m? -/
def within (ev : Nat → Int) (n : Nat) (l m : Int) : Bool := (List.range n).all fun i => decide (l ≤ ev i) && decide (ev i ≤ m)
end Go.Proofs.YtjhkadffaephmabGreat

/-
  plan.measure: its parts, by what a plan is.
-/
namespace Go.Proofs.YtjhkadffaephmabGreat
open Go.RowKit

/-- The first of n numbers that is not 0. -/
def firstErr (f : Nat → Int) : Nat → Int
  | 0 => 0
  | n + 1 => if firstErr f n = 0 then f n else firstErr f n
theorem firstErr_zero {f : Nat → Int} {n : Nat} : firstErr f n = 0 ↔ ∀ i, i < n → f i = 0 := by
  induction n with
  | zero => simp [firstErr]
  | succ n ih =>
    simp only [firstErr]
    by_cases h : firstErr f n = 0
    · rw [if_pos h]
      constructor
      · intro h0 i hi
        by_cases e : i = n
        · subst e; exact h0
        · exact ih.1 h i (by omega)
      · intro h0; exact h0 n (by omega)
    · rw [if_neg h]
      constructor
      · intro h0; exact absurd h0 h
      · intro h0; exact absurd (ih.2 (fun i hi => h0 i (by omega))) h
theorem firstErr_at {f : Nat → Int} {n k : Nat} (hk : k < n) (h0 : ∀ i, i < k → f i = 0) (h : f k ≠ 0) : firstErr f n = f k := by
  induction n with
  | zero => omega
  | succ n ih =>
    simp only [firstErr]
    by_cases e : k = n
    · subst e; rw [if_pos (firstErr_zero.2 h0)]
    · rw [ih (by omega), if_neg h]

end Go.Proofs.YtjhkadffaephmabGreat

/-
  Nets: plain mathematics. What a round makes, and that strict algebras settle, always to the same.
-/
namespace Go.Proofs.YtjhkadffaephmabGreat

/-- A net by its numbers. -/
structure Net where
  a : Alg
  nodes : Int
  ln : Nat
  F : Nat → Int
  T : Nat → Int
  E : Nat → Int

/-- Is there a link ahead of it with the same ends? -/
def Net.twice (n : Net) (i : Nat) : Bool := (List.range i).any fun k => n.F k == n.F i && n.T k == n.T i
def Net.linkErr (n : Net) (i : Nat) : Int :=
  if (n.F i < 0 ∨ n.nodes ≤ n.F i) ∨ (n.T i < 0 ∨ n.nodes ≤ n.T i) ∨ (n.E i < 0 ∨ (n.a.E.len : Int) ≤ n.E i) then 5
  else if n.F i = n.T i then 1 else if n.twice i = true then 6 else 0
def Net.check (n : Net) : Int :=
  if n.a.check ≠ 0 then n.a.check else if (n.a.tell [1, 2, 3, 4, 5, 6, 7]).law ≠ 0 then 4
  else if n.nodes < 1 ∨ 6 < n.nodes then 3 else firstErr n.linkErr n.ln
/-- The edge of the link between two nodes; -1: there is none. -/
def Net.edge (n : Net) (i k : Int) : Int := (((List.range n.ln).find? fun l => n.F l == i && n.T l == k).map n.E).getD (-1)

/-- The route of i to j, when so many nodes were looked at. -/
def Net.out (n : Net) (i j : Nat) (has : Nat → Int) : Nat → Int
  | 0 => if i = j then 0 else n.a.size - 1
  | k + 1 => if 0 ≤ n.edge i k then n.a.B.get (n.out i j has k) (n.a.E.get (n.edge i k) (has k)) else n.out i j has k
def Net.N (n : Net) : Nat := n.nodes.toNat
def Net.route (n : Net) (i j : Nat) (has : Nat → Int) : Int := n.out i j has n.N
def Net.begin (n : Net) (i j : Nat) : Int := if i = j then 0 else n.a.size - 1
def Net.same (n : Net) (x y : Nat → Nat → Int) : Bool := (List.range n.N).all fun i => (List.range n.N).all fun j => x i j == y i j
theorem Net.same_iff {n : Net} {x y : Nat → Nat → Int} : n.same x y = true ↔ ∀ i j, i < n.N → j < n.N → x i j = y i j := by
  simp only [Net.same, List.all_eq_true, List.mem_range, beq_iff_eq]
  exact ⟨fun h i j hi hj => h i hi j hj, fun h i hi j hj => h i j hi hj⟩

/-- An algebra that breaks none of its laws. -/
structure Alg.Lawful (a : Alg) : Prop where
  good : a.Good
  comm : ∀ x y, 0 ≤ x → x < a.size → 0 ≤ y → y < a.size → a.B.get x y = a.B.get y x
  assoc : ∀ x y z, 0 ≤ x → x < a.size → 0 ≤ y → y < a.size → 0 ≤ z → z < a.size → a.B.get x (a.B.get y z) = a.B.get (a.B.get x y) z
  sel : ∀ x y, 0 ≤ x → x < a.size → 0 ≤ y → y < a.size → a.B.get x y = x ∨ a.B.get x y = y
  zero : ∀ x, 0 ≤ x → x < a.size → a.B.get 0 x = 0
  last : ∀ x, 0 ≤ x → x < a.size → a.B.get (a.size - 1) x = x
  elast : ∀ e : Int, 0 ≤ e → e < a.E.len → a.E.get e (a.size - 1) = a.size - 1
  incr : ∀ e x : Int, 0 ≤ e → e < a.E.len → 0 ≤ x → x < a.size → a.B.get x (a.E.get e x) = x

theorem tell_law_none {a : Alg} (hc : a.check = 0) (h : (a.tell [1, 2, 3, 4, 5, 6, 7]).law = 0) : a.tell [1, 2, 3, 4, 5, 6, 7] = Brk.none := by
  apply Classical.byContradiction
  intro hn
  have := tell_broken hc hn
  omega

theorem Alg.Lawful.of {a : Alg} (hc : a.check = 0) (h : (a.tell [1, 2, 3, 4, 5, 6, 7]).law = 0) : a.Lawful := by
  have g := Alg.good_of_check hc
  have lo := g.lo
  have t := tell_law_none hc h
  have key : ∀ b : Brk, a.Fits b → b.law ≤ 7 → a.holds b = true := fun b f hl => tell_none t (holdsE_fit hc f) hl
  refine ⟨g, ?_, ?_, ?_, ?_, ?_, ?_, ?_⟩
  · intro x y h0 h1 h2 h3
    have := key ⟨1, x, y, 0, 0⟩ ⟨by simp, by simp, h0, by simp [spanA, routesOf]; omega, h2, by simp [spanB, routesOf]; omega, by simp, by simp [spanC, routesOf], by simp, by simp [spanE, edgeOf]⟩ (by simp)
    simpa [Alg.holds] using this
  · intro x y z h0 h1 h2 h3 h4 h5
    have := key ⟨2, x, y, z, 0⟩ ⟨by simp, by simp, h0, by simp [spanA, routesOf]; omega, h2, by simp [spanB, routesOf]; omega, h4, by simp [spanC, routesOf]; omega, by simp, by simp [spanE, edgeOf]⟩ (by simp)
    simpa [Alg.holds] using this
  · intro x y h0 h1 h2 h3
    have := key ⟨3, x, y, 0, 0⟩ ⟨by simp, by simp, h0, by simp [spanA, routesOf]; omega, h2, by simp [spanB, routesOf]; omega, by simp, by simp [spanC, routesOf], by simp, by simp [spanE, edgeOf]⟩ (by simp)
    simpa [Alg.holds] using this
  · intro x h0 h1
    have := key ⟨4, x, 0, 0, 0⟩ ⟨by simp, by simp, h0, by simp [spanA, routesOf]; omega, by simp, by simp [spanB, routesOf], by simp, by simp [spanC, routesOf], by simp, by simp [spanE, edgeOf]⟩ (by simp)
    simpa [Alg.holds] using this
  · intro x h0 h1
    have := key ⟨5, x, 0, 0, 0⟩ ⟨by simp, by simp, h0, by simp [spanA, routesOf]; omega, by simp, by simp [spanB, routesOf], by simp, by simp [spanC, routesOf], by simp, by simp [spanE, edgeOf]⟩ (by simp)
    simpa [Alg.holds] using this
  · intro e h0 h1
    have := key ⟨6, 0, 0, 0, e⟩ ⟨by simp, by simp, by simp, by simp [spanA, routesOf], by simp, by simp [spanB, routesOf], by simp, by simp [spanC, routesOf], h0, by simp [spanE, edgeOf]; omega⟩ (by simp)
    simpa [Alg.holds] using this
  · intro e x h0 h1 h2 h3
    have := key ⟨7, x, 0, 0, e⟩ ⟨by simp, by simp, h2, by simp [spanA, routesOf]; omega, by simp, by simp [spanB, routesOf], by simp, by simp [spanC, routesOf], h0, by simp [spanE, edgeOf]; omega⟩ (by simp)
    simpa [Alg.holds] using this

section
variable {a : Alg}

theorem Alg.Lawful.le_trans (h : a.Lawful) {x y z : Int} (h0 : 0 ≤ x) (h1 : x < a.size) (h2 : 0 ≤ y) (h3 : y < a.size) (h4 : 0 ≤ z) (h5 : z < a.size) (e1 : a.B.get x y = x) (e2 : a.B.get y z = y) : a.B.get x z = x := by
  have := h.assoc x y z h0 h1 h2 h3 h4 h5
  rw [e2, e1] at this
  exact this.symm
theorem Alg.Lawful.le_anti (h : a.Lawful) {x y : Int} (h0 : 0 ≤ x) (h1 : x < a.size) (h2 : 0 ≤ y) (h3 : y < a.size) (e1 : a.B.get x y = x) (e2 : a.B.get y x = y) : x = y := by
  rw [← e1, h.comm x y h0 h1 h2 h3, e2]

end

/-- A net that passes Check. -/
structure Net.Good (n : Net) : Prop where
  law : n.a.Lawful
  lo : 1 ≤ n.nodes
  hi : n.nodes ≤ 6
  link : ∀ i, i < n.ln → 0 ≤ n.F i ∧ n.F i < n.nodes ∧ 0 ≤ n.T i ∧ n.T i < n.nodes ∧ 0 ≤ n.E i ∧ n.E i < n.a.E.len

theorem Net.good_of_check {n : Net} (h : n.check = 0) : n.Good := by
  unfold Net.check at h
  by_cases h1 : n.a.check = 0
  · rw [if_neg (by simp [h1])] at h
    by_cases h2 : (n.a.tell [1, 2, 3, 4, 5, 6, 7]).law = 0
    · rw [if_neg (by simp [h2])] at h
      by_cases h3 : n.nodes < 1 ∨ 6 < n.nodes
      · rw [if_pos h3] at h; cases h
      · rw [if_neg h3] at h
        refine ⟨Alg.Lawful.of h1 h2, by omega, by omega, fun i hi => ?_⟩
        have := firstErr_zero.1 h i hi
        unfold Net.linkErr at this
        split at this
        · cases this
        · omega
    · rw [if_pos h2] at h; cases h
  · rw [if_pos h1] at h; exact absurd h h1

theorem Net.edge_lt {n : Net} (g : n.Good) (i k : Int) : n.edge i k < n.a.E.len := by
  unfold Net.edge
  cases hf : (List.range n.ln).find? fun l => n.F l == i && n.T l == k with
  | none => simp; omega
  | some l =>
    have := List.mem_of_find?_eq_some hf
    simp only [List.mem_range] at this
    simpa using (g.link l this).2.2.2.2.2

/-- Each is a route. -/
def Net.Routes (n : Net) (f : Nat → Int) : Prop := ∀ k, k < n.N → 0 ≤ f k ∧ f k < n.a.size

section
variable {n : Net}

theorem Net.cand {n : Net} (g : n.Good) {f : Nat → Int} (hf : n.Routes f) {i : Int} {k : Nat} (hk : k < n.N) (he : 0 ≤ n.edge i k) : 0 ≤ n.a.E.get (n.edge i k) (f k) ∧ n.a.E.get (n.edge i k) (f k) < n.a.size :=
  g.law.good.edge he (n.edge_lt g i k) (hf k hk).1 (hf k hk).2

/-- What a route is, and that none is better. -/
theorem Net.out_spec (g : n.Good) {f : Nat → Int} (hf : n.Routes f) (i j : Nat) : ∀ m, m ≤ n.N →
    (0 ≤ n.out i j f m ∧ n.out i j f m < n.a.size) ∧
    (n.out i j f m = n.out i j f 0 ∨ ∃ k, k < m ∧ 0 ≤ n.edge i k ∧ n.out i j f m = n.a.E.get (n.edge i k) (f k)) ∧
    n.a.B.get (n.out i j f m) (n.out i j f 0) = n.out i j f m ∧
    ∀ k, k < m → 0 ≤ n.edge i k → n.a.B.get (n.out i j f m) (n.a.E.get (n.edge i k) (f k)) = n.out i j f m := by
  have lo := g.law.good.lo
  intro m
  induction m with
  | zero =>
    intro _
    have h0 : 0 ≤ n.out i j f 0 ∧ n.out i j f 0 < n.a.size := by
      unfold Net.out
      split <;> omega
    refine ⟨h0, Or.inl rfl, ?_, fun k hk => absurd hk (Nat.not_lt_zero _)⟩
    rcases g.law.sel _ _ h0.1 h0.2 h0.1 h0.2 with e | e <;> exact e
  | succ m ih =>
    intro hm
    obtain ⟨r, s, t, u⟩ := ih (by omega)
    have h0 : 0 ≤ n.out i j f 0 ∧ n.out i j f 0 < n.a.size := by
      simp only [Net.out]
      split <;> omega
    by_cases he : 0 ≤ n.edge i m
    · have e : n.out i j f (m + 1) = n.a.B.get (n.out i j f m) (n.a.E.get (n.edge i m) (f m)) := by
        rw [Net.out, if_pos he]
      obtain ⟨c0, c1⟩ := n.cand g hf (i := i) (k := m) (by omega) he
      generalize hc : n.a.E.get (n.edge i m) (f m) = c at *
      generalize n.out i j f m = o at *
      rw [e]
      rcases g.law.sel o c r.1 r.2 c0 c1 with e1 | e1
      · rw [e1]
        refine ⟨r, ?_, t, fun k hk hek => ?_⟩
        · rcases s with s | ⟨k, hk, s1, s2⟩
          · exact Or.inl s
          · exact Or.inr ⟨k, by omega, s1, s2⟩
        · by_cases ek : k = m
          · subst ek; rw [hc]; exact e1
          · exact u k (by omega) hek
      · rw [e1]
        have hco : n.a.B.get c o = c := by rw [g.law.comm c o c0 c1 r.1 r.2, e1]
        refine ⟨⟨c0, c1⟩, Or.inr ⟨m, by omega, he, hc.symm⟩, g.law.le_trans c0 c1 r.1 r.2 h0.1 h0.2 hco t, fun k hk hek => ?_⟩
        by_cases ek : k = m
        · subst ek
          rw [hc]
          rcases g.law.sel c c c0 c1 c0 c1 with e2 | e2 <;> exact e2
        · obtain ⟨d0, d1⟩ := n.cand g hf (i := i) (k := k) (by omega) hek
          exact g.law.le_trans c0 c1 r.1 r.2 d0 d1 hco (u k (by omega) hek)
    · have e : n.out i j f (m + 1) = n.out i j f m := by rw [Net.out, if_neg he]
      rw [e]
      refine ⟨r, ?_, t, fun k hk hek => ?_⟩
      · rcases s with s | ⟨k, hk, s1, s2⟩
        · exact Or.inl s
        · exact Or.inr ⟨k, by omega, s1, s2⟩
      · by_cases ek : k = m
        · subst ek; exact absurd hek he
        · exact u k (by omega) hek

theorem Net.route_in (g : n.Good) {f : Nat → Int} (hf : n.Routes f) (i j : Nat) : 0 ≤ n.route i j f ∧ n.route i j f < n.a.size := (n.out_spec g hf i j n.N (Nat.le_refl _)).1

/-- A state of routes. -/
def Net.State (n : Net) (x : Nat → Nat → Int) : Prop := ∀ i j, i < n.N → j < n.N → 0 ≤ x i j ∧ x i j < n.a.size

end

end Go.Proofs.YtjhkadffaephmabGreat
