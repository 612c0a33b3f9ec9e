/-
  algebra.firstBroken, Laws, Strict, Distributive.
-/
import Derived.Test.YtjhkadffaephmaaBroken
namespace Go.Proofs.Ytjhkadffaephmaa
open Go.RowKit

theorem namesAt_below {w w' : World} {b k : Nat} (h : World.namesAt w b) (hb : Below k w w') (hk : b < k) : World.namesAt w' b := by
  obtain ⟨es, clock, h1, h2⟩ := h
  exact ⟨es, clock, (hb.block b hk).trans h1, h2⟩

theorem names_lookup {w : World} {b : Nat} {l : Int} (h : World.namesAt w b) (l0 : 1 ≤ l) (l1 : l ≤ 9) :
    (Instr.lookup 93 (.map (some b)) (.int .i64 l) false).run Try.prog w = .ok (.agg #[.int .i64 (routesOf l), .int .i64 (edgesOf l)]) w := by
  have hw : (Lit.int .i64 l).wf = true := WalkArith.wf_i64 (by omega)
  obtain ⟨v, ps, hrun, hv⟩ := World.ownsMap.lookup h law3 Try.underlying93 (zeroE w) (pairElem_mk 0 0) (keyInt hw)
  rw [namesD_at l l0 l1] at hv
  rw [hrun, pairElem_inv hv]

theorem names_look_ok {w : World} {b : Nat} {l : Int} (h : World.namesAt w b) (l0 : 1 ≤ l) (l1 : l ≤ 9) :
    (Instr.lookup 93 (.map (some b)) (.int .i64 l) true).run Try.prog w = .ok (.tuple #[.agg #[.int .i64 (routesOf l), .int .i64 (edgesOf l)], .bool true]) w := by
  have hw : (Lit.int .i64 l).wf = true := WalkArith.wf_i64 (by omega)
  obtain ⟨v, ps, hrun, hv⟩ := World.ownsMap.look_ok h law3 Try.underlying93 (zeroE w) (pairElem_mk 0 0) (keyInt hw)
  rw [namesD_at l l0 l1] at hv
  rw [hrun, pairElem_inv hv, namesD_has]
  simp [l0, l1]

theorem names_look_no {w : World} {b : Nat} {l : Int} (h : World.namesAt w b) (hw : (Lit.int .i64 l).wf = true) (hl : ¬ (1 ≤ l ∧ l ≤ 9)) :
    (Instr.lookup 93 (.map (some b)) (.int .i64 l) true).run Try.prog w = .ok (.tuple #[.agg #[.int .i64 0, .int .i64 0], .bool false]) w := by
  obtain ⟨v, ps, hrun, hv⟩ := World.ownsMap.look_ok h law3 Try.underlying93 (zeroE w) (pairElem_mk 0 0) (keyInt hw)
  have hn : Maps.has namesD (.int .i64 l) = false := by rw [namesD_has]; simp; omega
  rw [Maps.atKey_of_not_has hn] at hv
  rw [hrun, pairElem_inv hv, hn]

/-- The first broken one of several laws. -/
def Alg.firstOf (a : Alg) : List Int → Brk
  | [] => Brk.none
  | l :: r => if (a.first (a.casesOf l)).same Brk.none = true then a.firstOf r else a.first (a.casesOf l)

theorem firstOf_go {a : Alg} {l : Int} {r : List Int} (h : a.first (a.casesOf l) = Brk.none) : a.firstOf (l :: r) = a.firstOf r := by
  simp only [Alg.firstOf]; rw [if_pos (Brk.same_iff.2 h)]
theorem firstOf_stop {a : Alg} {l : Int} {r : List Int} (h : a.first (a.casesOf l) ≠ Brk.none) : a.firstOf (l :: r) = a.first (a.casesOf l) := by
  simp only [Alg.firstOf]; rw [if_neg (fun e => h (Brk.same_iff.1 e))]

theorem firstOf_append_none {a : Alg} {xs ys : List Int} (h : ∀ l ∈ xs, a.first (a.casesOf l) = Brk.none) : a.firstOf (xs ++ ys) = a.firstOf ys := by
  induction xs with
  | nil => rfl
  | cons x xs ih =>
    rw [List.cons_append, firstOf_go (h x (by simp)), ih (fun l hl => h l (by simp [hl]))]

theorem firstOf_at {a : Alg} {ls : List Int} {k : Nat} (hk : k < ls.length) (h : ∀ i, (hi : i < k) → a.first (a.casesOf (ls[i]'(by omega))) = Brk.none) (hn : a.first (a.casesOf ls[k]) ≠ Brk.none) : a.firstOf ls = a.first (a.casesOf ls[k]) := by
  have hs : ls.take k ++ (ls[k] :: ls.drop (k + 1)) = ls := by rw [← List.drop_eq_getElem_cons hk, List.take_append_drop]
  have h1 := firstOf_append_none (a := a) (xs := ls.take k) (ys := ls[k] :: ls.drop (k + 1)) (fun l hl => by
    obtain ⟨i, hi, rfl⟩ := List.mem_iff_getElem.1 hl
    simp at hi
    simp only [List.getElem_take]
    exact h i (by omega))
  rw [hs] at h1
  rw [h1]
  exact firstOf_stop hn

theorem firstOf_none {a : Alg} {ls : List Int} (h : ∀ i, (hi : i < ls.length) → a.first (a.casesOf ls[i]) = Brk.none) : a.firstOf ls = Brk.none := by
  have := firstOf_append_none (a := a) (xs := ls) (ys := []) (fun l hl => by
    obtain ⟨i, hi, rfl⟩ := List.mem_iff_getElem.1 hl
    exact h i hi)
  simpa [Alg.firstOf] using this

set_option maxHeartbeats 2000000 in
theorem firstBroken_bad (a : AlgM) (bl : Nat) (n : Nat) (w : World) (h : a.In w.heap.size w) (hc : a.alg.check ≠ 0) :
    Calls Try.prog 55 #[a.val, .slice (some ⟨bl, 0, none⟩) n n] w fun e w' => e = .returned (.tuple #[Brk.none.val, .int .i64 a.alg.check]) ∧ Below w.heap.size w w' := by
  have hck := fun W (hI : a.In w.heap.size W) (hn : w.heap.size ≤ W.heap.size) => check_any a w.heap.size W hI hn
  generalize a.alg.check = ck at *
  have hne : ((ck : Int) != 0) = true := by simpa using hc
  have HC := hide hck
  clear hck hc
  have hb0 : Below w.heap.size w ((w.alloc (.cells #[.int .i64 a.size, a.B.val, a.E.val] 24)).alloc (.cells #[.int .i64 0, .int .i64 0, .int .i64 0, .int .i64 0, .int .i64 0] 26)) :=
    ((Below.refl _ w).alloc (Nat.le_refl _) _).alloc (by simp) _
  have bR := Blk.new (w.alloc (.cells #[.int .i64 a.size, a.B.val, a.E.val] 24)) #[.int .i64 0, .int .i64 0, .int .i64 0, .int .i64 0, .int .i64 0] 26
  simp only [World.size_alloc] at bR
  have hI := h.below hb0 (Nat.le_refl _)
  simp only [AlgM.val]
  go_enter Try.func55, Try.ntmps55
  go_wp2_with fail
  go_at_call 22
  refine (HC.out _ hI (by simp; omega)).mono ?_
  rintro e w1 ⟨rfl, hb1⟩
  have bR1 := bR.below hb1 (by simp)
  have dR0 := bR1.cell 0
  have dR1 := bR1.cell 1
  have dR2 := bR1.cell 2
  have dR3 := bR1.cell 3
  have dR4 := bR1.cell 4
  have fR := bR1.frozen
  simp at dR0 dR1 dR2 dR3 dR4
  go_wp2
  have bR2 := bR1.set5 (.int .i64 0) (.int .i64 0) (.int .i64 0) (.int .i64 0) (.int .i64 0)
  have e0 := bR2.cell 0
  have e1 := bR2.cell 1
  have e2 := bR2.cell 2
  have e3 := bR2.cell 3
  have e4 := bR2.cell 4
  unfold Ytjhkadffaephmaa.set5 at e0 e1 e2 e3 e4
  simp at e0 e1 e2 e3 e4
  refine bodyPost_ret (v := .tuple #[Brk.none.val, .int .i64 ck]) (by simp [results, Try.results55, go_sem, e0, e1, e2, e3, e4, Brk.val, Brk.none]) rfl ⟨rfl, ?_⟩
  exact below5 (hb0.trans (hb1.mono (by simp; omega))) (by omega) _ _ _ _ _

theorem first_law {a : Alg} {l : Int} (h : a.first (a.casesOf l) ≠ Brk.none) : (a.first (a.casesOf l)).law = l := by
  unfold Alg.first at h ⊢
  cases hf : (a.casesOf l).find? (fun b => !a.holds b) with
  | none => rw [hf] at h; exact absurd rfl h
  | some b =>
    have hm := List.mem_of_find?_eq_some hf
    exact (mem_casesA hm).1

theorem brk_ne {b : Brk} : (b.val = Brk.none.val) ↔ b = Brk.none := by
  obtain ⟨l, a, b, c, e⟩ := b
  simp [Brk.val, Brk.none]

set_option maxHeartbeats 4000000 in
theorem firstBroken_good (a : AlgM) (g : a.alg.Good) (ls : List Int) (hls : ∀ l ∈ ls, 1 ≤ l ∧ l ≤ 9) (hlen : ls.length ≤ 100) (bl : Nat) (w : World) (h : a.In w.heap.size w) (hbl : bl < w.heap.size)
    (hcl : ∀ i, (hi : i < ls.length) → w.cell? ⟨bl, i, none⟩ = some (.int .i64 ls[i])) :
    Calls Try.prog 55 #[a.val, .slice (some ⟨bl, 0, none⟩) ls.length ls.length] w fun e w' => e = .returned (.tuple #[(a.alg.firstOf ls).val, .int .i64 0]) ∧ Below w.heap.size w w' := by
  have hck := fun W (hI : a.In w.heap.size W) (hn : w.heap.size ≤ W.heap.size) => check_any a w.heap.size W hI hn
  rw [g.check] at hck
  have HC := hide hck
  have HL := hide hcl
  clear hck hcl
  have hb0 : Below w.heap.size w ((w.alloc (.cells #[.int .i64 a.size, a.B.val, a.E.val] 24)).alloc (.cells #[.int .i64 0, .int .i64 0, .int .i64 0, .int .i64 0, .int .i64 0] 26)) :=
    ((Below.refl _ w).alloc (Nat.le_refl _) _).alloc (by simp) _
  have bA := (Blk.new w #[.int .i64 a.size, a.B.val, a.E.val] 24).alloc (.cells #[.int .i64 0, .int .i64 0, .int .i64 0, .int .i64 0, .int .i64 0] 26)
  have bR := Blk.new (w.alloc (.cells #[.int .i64 a.size, a.B.val, a.E.val] 24)) #[.int .i64 0, .int .i64 0, .int .i64 0, .int .i64 0, .int .i64 0] 26
  simp only [World.size_alloc] at bR
  have hI := h.below hb0 (Nat.le_refl _)
  simp only [AlgM.val]
  go_enter Try.func55, Try.ntmps55
  go_wp2_with fail
  go_at_call 22
  refine (HC.out _ hI (by simp; omega)).mono ?_
  rintro e w1 ⟨rfl, hb1⟩
  have bA1 := bA.below hb1 (by simp; omega)
  have bR1 := bR.below hb1 (by simp)
  have hB1 := hb0.trans (hb1.mono (by simp; omega))
  have hs1 := hb1.size
  simp only [World.size_alloc] at hs1
  clear hb1 bA bR hb0 hI HC
  go_wp2_with fail
  go_at_call 61
  refine (names_any _).mono ?_
  rintro e w2 ⟨rfl, hm, hb2⟩
  have bA2 := bA1.below hb2 (by omega)
  have bR2 := bR1.below hb2 (by omega)
  have hB2 := hB1.trans (hb2.mono (by omega))
  have hs2 := hb2.size
  have hmb : w1.heap.size < w2.heap.size := hm.lt
  clear hb2 bA1 bR1 hB1
  have HM := hide hm
  clear hm
  go_wp2
  go_loopw [20] (fun i wr => ∃ k : Nat, k ≤ ls.length ∧ i = .int .i64 k ∧ Hid (∀ j, (hj : j < k) → (hj' : j < ls.length) → a.alg.first (a.alg.casesOf ls[j]) = Brk.none) ∧ Hid (Below w2.heap.size w2 wr)) (fun i _ => ls.length - (intOf i).toNat)
  case atStart => exact ⟨0, Nat.zero_le _, rfl, hide (fun j hj => absurd hj (Nat.not_lt_zero _)), hide (Below.refl _ _)⟩
  case round =>
    obtain ⟨k, hk, rfl, Hall, HB⟩ := hrel
    by_cases hlt : k < ls.length
    · have hBw := hB2.trans (HB.out.mono (by omega))
      have hcell : wr.cell? ⟨bl, k, none⟩ = some (.int .i64 ls[k]) := (hBw.cell (p := ⟨bl, k, none⟩) hbl).trans (HL.out k hlt)
      obtain ⟨l0, l1⟩ := hls _ (List.getElem_mem hlt)
      have bA3 := bA2.below HB.out (by omega)
      have bR3 := bR2.below HB.out (by omega)
      have hlook := names_lookup (namesAt_below HM.out HB.out (by omega)) l0 l1
      have hbk := broken_any a g ls[k] l0 l1 wr ((h.below hBw (Nat.le_refl _)).mono hBw.size)
      have cA0 : wr.cell? ⟨w.heap.size, 0, none⟩ = some (.int .i64 a.size) := bA3.cell 0
      have cA1 : wr.cell? ⟨w.heap.size, 1, none⟩ = some a.B.val := bA3.cell 1
      have cA2 : wr.cell? ⟨w.heap.size, 2, none⟩ = some a.E.val := bA3.cell 2
      have Hat : Hid (a.alg.first (a.alg.casesOf ls[k]) ≠ Brk.none → a.alg.firstOf ls = a.alg.first (a.alg.casesOf ls[k])) := hide (fun hn => firstOf_at hlt (fun i hi => Hall.out i hi (by omega)) hn)
      have Hlw : Hid (a.alg.first (a.alg.casesOf ls[k]) ≠ Brk.none → (a.alg.first (a.alg.casesOf ls[k])).law = ls[k]) := hide first_law
      have Hgo : Hid (a.alg.first (a.alg.casesOf ls[k]) = Brk.none → ∀ j, (hj : j < k + 1) → (hj' : j < ls.length) → a.alg.first (a.alg.casesOf ls[j]) = Brk.none) := hide (fun he j hj hj' => by
        by_cases e : j = k
        · subst e; exact he
        · exact Hall.out j (by omega) hj')
      generalize a.alg.first (a.alg.casesOf ls[k]) = fb at *
      generalize ls[k] = l at *
      have HK := hide hbk
      clear hbk
      go_wp2_with fail
      go_at_call 101
      refine HK.out.mono ?_
      rintro e w3 ⟨rfl, hb3⟩
      have bR4 := bR3.below hb3 bR3.lt
      have hs3 := hb3.size
      have hBx := hide (HB.out.trans (hb3.mono HB.out.size))
      have dR0 := bR4.cell 0
      have dR1 := bR4.cell 1
      have dR2 := bR4.cell 2
      have dR3 := bR4.cell 3
      have dR4 := bR4.cell 4
      have fR := bR4.frozen
      simp at dR0 dR1 dR2 dR3 dR4
      have hlw3 : w.heap.size + 1 < w3.heap.size := bR4.lt
      have hBw3 := hide (hBw.trans (hb3.mono hBw.size))
      clear HK bR3 bA3 cA0 cA1 cA2 hlook hcell hb3 hBw bR2 bA2
      by_cases hnone : fb = Brk.none
      · subst hnone
        have Hg2 := hide (Hgo.out rfl)
        clear Hgo Hlw Hat
        simp only [Brk.val, Brk.none]
        go_wp2
        go_roundw
        case rel => exact ⟨k + 1, by omega, by go_num, Hg2, hide (hBx.out.alloc (Nat.le_trans HB.out.size hs3) _)⟩
        case measure => simp [intOf]; omega
      · have Hfin := hide (Hat.out hnone)
        have hfl := Hlw.out hnone
        clear Hgo Hlw Hat hnone
        obtain ⟨fl, fa, fb', fc, fe⟩ := fb
        simp only at hfl
        have hz : (fl == (0 : Int)) = false := by rw [beq_eq_false_iff_ne]; omega
        clear hfl
        simp only [Brk.val]
        go_wp2
        have bR5 := (bR4.set5 (.int .i64 fl) (.int .i64 fa) (.int .i64 fb') (.int .i64 fc) (.int .i64 fe)).alloc (.cells #[.int .i64 fl, .int .i64 fa, .int .i64 fb', .int .i64 fc, .int .i64 fe] 26)
        have e0 := bR5.cell 0
        have e1 := bR5.cell 1
        have e2 := bR5.cell 2
        have e3 := bR5.cell 3
        have e4 := bR5.cell 4
        unfold Ytjhkadffaephmaa.set5 at e0 e1 e2 e3 e4
        simp at e0 e1 e2 e3 e4
        refine bodyPost_ret (v := .tuple #[Brk.val ⟨fl, fa, fb', fc, fe⟩, .int .i64 0]) (by simp [results, Try.results55, go_sem, e0, e1, e2, e3, e4, Brk.val]) rfl ⟨by rw [Hfin.out], ?_⟩
        have hb5 := below5 hBw3.out (show w.heap.size ≤ w.heap.size + 1 by omega) (.int .i64 fl) (.int .i64 fa) (.int .i64 fb') (.int .i64 fc) (.int .i64 fe)
        exact hb5.alloc hb5.size _
    · have Hfin := hide (firstOf_none (a := a.alg) (ls := ls) (fun i hi => Hall.out i (by omega) hi))
      have hBw := hB2.trans (HB.out.mono (by omega))
      have bR3 := bR2.below HB.out (by omega)
      have dR0 := bR3.cell 0
      have dR1 := bR3.cell 1
      have dR2 := bR3.cell 2
      have dR3 := bR3.cell 3
      have dR4 := bR3.cell 4
      have fR := bR3.frozen
      simp at dR0 dR1 dR2 dR3 dR4
      go_wp2
      have bR5 := bR3.set5 (.int .i64 0) (.int .i64 0) (.int .i64 0) (.int .i64 0) (.int .i64 0)
      have e0 := bR5.cell 0
      have e1 := bR5.cell 1
      have e2 := bR5.cell 2
      have e3 := bR5.cell 3
      have e4 := bR5.cell 4
      unfold Ytjhkadffaephmaa.set5 at e0 e1 e2 e3 e4
      simp at e0 e1 e2 e3 e4
      refine bodyPost_ret (v := .tuple #[Brk.none.val, .int .i64 0]) (by simp [results, Try.results55, go_sem, e0, e1, e2, e3, e4, Brk.val, Brk.none]) rfl ⟨by rw [Hfin.out], ?_⟩
      exact below5 hBw (by omega) _ _ _ _ _

/-- What Laws, Strict and Distributive tell. -/
def Alg.tell (a : Alg) (ls : List Int) : Brk := if a.check = 0 then a.firstOf ls else Brk.none

theorem firstBroken_any (a : AlgM) (ls : List Int) (hls : ∀ l ∈ ls, 1 ≤ l ∧ l ≤ 9) (hlen : ls.length ≤ 100) (bl : Nat) (w : World) (h : a.In w.heap.size w) (hbl : bl < w.heap.size)
    (hcl : ∀ i, (hi : i < ls.length) → w.cell? ⟨bl, i, none⟩ = some (.int .i64 ls[i])) :
    Calls Try.prog 55 #[a.val, .slice (some ⟨bl, 0, none⟩) ls.length ls.length] w fun e w' => e = .returned (.tuple #[(a.alg.tell ls).val, .int .i64 a.alg.check]) ∧ Below w.heap.size w w' := by
  by_cases hc : a.alg.check = 0
  · have := firstBroken_good a (Alg.good_of_check hc) ls hls hlen bl w h hbl hcl
    simp only [Alg.tell, hc, if_true]
    exact this
  · have := firstBroken_bad a bl ls.length w h hc
    simp only [Alg.tell, hc, if_false]
    exact this

end Go.Proofs.Ytjhkadffaephmaa
