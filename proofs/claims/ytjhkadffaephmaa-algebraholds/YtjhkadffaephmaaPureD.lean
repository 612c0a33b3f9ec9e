/-
  Plain mathematics: what is told to be broken does not hold; if nothing is, all hold.
-/
import Derived.Test.YtjhkadffaephmaaHoldsE
namespace Go.Proofs.Ytjhkadffaephmaa
open Go.RowKit

theorem Alg.Good.mem_cases {a : Alg} (g : a.Good) {b : Brk} (f : a.Fits b) : b ∈ a.casesOf b.law := by
  obtain ⟨sa, sb, sc, se, ea, eb, ec, ee, hco, _⟩ := g.spans b.law
  rw [hco]
  obtain ⟨l, x, y, z, e⟩ := b
  have h1 := f.a0
  have h2 := f.a1
  have h3 := f.b0
  have h4 := f.b1
  have h5 := f.c0
  have h6 := f.c1
  have h7 := f.e0
  have h8 := f.e1
  simp only at *
  obtain ⟨x, rfl⟩ := Int.eq_ofNat_of_zero_le h1
  obtain ⟨y, rfl⟩ := Int.eq_ofNat_of_zero_le h3
  obtain ⟨z, rfl⟩ := Int.eq_ofNat_of_zero_le h5
  obtain ⟨e, rfl⟩ := Int.eq_ofNat_of_zero_le h7
  exact casesTo_mem l (by omega) (by omega) (by omega) (by omega)

theorem Alg.Good.fits_cases {a : Alg} (g : a.Good) {l : Int} (l0 : 1 ≤ l) (l1 : l ≤ 9) {b : Brk} (h : b ∈ a.casesOf l) : a.Fits b ∧ b.law = l := by
  obtain ⟨sa, sb, sc, se, ea, eb, ec, ee, hco, _⟩ := g.spans l
  rw [hco] at h
  obtain ⟨rfl, ha, hb, hc, he⟩ := mem_casesA h
  exact ⟨⟨l0, l1, ha.1, by omega, hb.1, by omega, hc.1, by omega, he.1, by omega⟩, rfl⟩

theorem first_spec {a : Alg} {l : Int} : a.first (a.casesOf l) = Brk.none ∧ ((a.casesOf l).find? (fun b => !a.holds b) = none ∨ Brk.none ∈ a.casesOf l) ∨ (a.first (a.casesOf l) ∈ a.casesOf l ∧ a.holds (a.first (a.casesOf l)) = false) := by
  unfold Alg.first
  cases hf : (a.casesOf l).find? (fun b => !a.holds b) with
  | none => exact .inl ⟨rfl, .inl rfl⟩
  | some b =>
    have hb := List.find?_some hf
    exact .inr ⟨List.mem_of_find?_eq_some hf, by simpa using hb⟩

theorem firstOf_spec {a : Alg} : ∀ {ls : List Int}, a.firstOf ls ≠ Brk.none → ∃ l ∈ ls, a.firstOf ls = a.first (a.casesOf l) ∧ a.firstOf ls ∈ a.casesOf l ∧ a.holds (a.firstOf ls) = false
  | [], h => absurd rfl h
  | l :: r, h => by
    by_cases hl : a.first (a.casesOf l) = Brk.none
    · have e : a.firstOf (l :: r) = a.firstOf r := firstOf_go hl
      rw [e] at h ⊢
      obtain ⟨l', hm, h1⟩ := firstOf_spec h
      exact ⟨l', by simp [hm], h1⟩
    · have e : a.firstOf (l :: r) = a.first (a.casesOf l) := firstOf_stop hl
      rw [e]
      rcases first_spec (a := a) (l := l) with h1 | h1
      · exact absurd h1.1 hl
      · exact ⟨l, by simp, rfl, h1⟩

theorem firstOf_all {a : Alg} : ∀ {ls : List Int}, (∀ l ∈ ls, 1 ≤ l) → a.firstOf ls = Brk.none → ∀ l ∈ ls, ∀ b ∈ a.casesOf l, a.holds b = true
  | [], _, _, l, hl => absurd hl (by simp)
  | k :: r, hp, h, l, hl => by
    have hk : a.first (a.casesOf k) = Brk.none := by
      by_cases hk : a.first (a.casesOf k) = Brk.none
      · exact hk
      · rw [firstOf_stop hk] at h; exact absurd h hk
    have hr : a.firstOf r = Brk.none := by rw [firstOf_go hk] at h; exact h
    rcases List.mem_cons.1 hl with rfl | hl
    · intro b hb
      cases hh : a.holds b with
      | true => rfl
      | false =>
        exfalso
        have h1 : ((a.casesOf l).find? (fun b => !a.holds b)).isSome = true := by
          rw [List.find?_isSome]; exact ⟨b, hb, by simp [hh]⟩
        obtain ⟨c, hc⟩ := Option.isSome_iff_exists.1 h1
        have hm := List.mem_of_find?_eq_some hc
        have hcl := (mem_casesA hm).1
        unfold Alg.first at hk
        rw [hc] at hk
        have : c = Brk.none := hk
        rw [this] at hcl
        have := hp l (by simp)
        simp [Brk.none] at hcl
        omega
    · exact firstOf_all (fun l hl => hp l (by simp [hl])) hr l hl

theorem holdsE_fit {a : Alg} (hc : a.check = 0) {b : Brk} (f : a.Fits b) : a.holdsE b = 0 := by
  have hf : a.fitsB b = true := by
    simp only [Alg.fitsB, Bool.and_eq_true, decide_eq_true_eq]
    exact ⟨⟨⟨⟨f.a0, f.a1⟩, f.b0, f.b1⟩, f.c0, f.c1⟩, f.e0, f.e1⟩
  have h0 := f.l0
  have h1 := f.l1
  unfold Alg.holdsE
  rw [if_neg (by simp [hc]), if_neg (by omega), hf]; rfl

theorem fit_of_holdsE {a : Alg} {b : Brk} (h : a.holdsE b = 0) : a.check = 0 ∧ a.Fits b := by
  unfold Alg.holdsE at h
  by_cases hc : a.check = 0
  · rw [if_neg (by simp [hc])] at h
    split at h
    · cases h
    · next hl =>
      cases hf : a.fitsB b with
      | false => rw [hf] at h; simp at h
      | true => exact ⟨hc, Alg.fits_of (by omega) (by omega) hf⟩
  · rw [if_pos hc] at h; exact absurd h hc

/-- What is told to be broken: it fits, it does not hold, its law is one of the seven. -/
theorem tell_broken {a : Alg} (hc : a.check = 0) (h : a.tell [1, 2, 3, 4, 5, 6, 7] ≠ Brk.none) :
    a.holdsE (a.tell [1, 2, 3, 4, 5, 6, 7]) = 0 ∧ a.holds (a.tell [1, 2, 3, 4, 5, 6, 7]) = false ∧ 1 ≤ (a.tell [1, 2, 3, 4, 5, 6, 7]).law ∧ (a.tell [1, 2, 3, 4, 5, 6, 7]).law ≤ 7 := by
  have e : a.tell [1, 2, 3, 4, 5, 6, 7] = a.firstOf [1, 2, 3, 4, 5, 6, 7] := by unfold Alg.tell; rw [if_pos hc]
  rw [e] at h ⊢
  obtain ⟨l, hl, h1, h2, h3⟩ := firstOf_spec h
  have hl' : 1 ≤ l ∧ l ≤ 7 := by simp at hl; omega
  have hf := (Alg.good_of_check hc).fits_cases hl'.1 (by omega) h2
  exact ⟨holdsE_fit hc hf.1, h3, by omega, by omega⟩

/-- If nothing is told to be broken, whatever of the seven is asked for holds. -/
theorem tell_none {a : Alg} {b : Brk} (h : a.tell [1, 2, 3, 4, 5, 6, 7] = Brk.none) (he : a.holdsE b = 0) (hl : b.law ≤ 7) : a.holds b = true := by
  obtain ⟨hc, f⟩ := fit_of_holdsE he
  have e : a.tell [1, 2, 3, 4, 5, 6, 7] = a.firstOf [1, 2, 3, 4, 5, 6, 7] := by unfold Alg.tell; rw [if_pos hc]
  rw [e] at h
  have h0 := f.l0
  exact firstOf_all (by decide) h b.law (by simp; omega) b ((Alg.good_of_check hc).mem_cases f)

end Go.Proofs.Ytjhkadffaephmaa
