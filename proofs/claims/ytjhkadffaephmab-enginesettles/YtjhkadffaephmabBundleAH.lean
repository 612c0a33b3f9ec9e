/-
  Our own texts, bundled: a claim holds few files.
-/
import Derived.Test.YtjhkadffaephmabBundleAE
import Derived.Test.YtjhkadffaephmabBundleAG
import Derived.Test.YtjhkadffaephmabBundleAF
import Derived.Test.YtjhkadffaephmabBundleAA
import Derived.ProofKit
import Derived.OpenShut
import Derived.Below
import Derived.Lib.SmallJoins
import Derived.Deep.Matrix
import Derived.Test.YtjhkadffaephmabBundleAB
import Derived.DeepKeys4
/-
  signpostlaw.hops and algebraBegun: what must be in any case.
-/
namespace Go.Proofs.Ytjhkadffaephmab
open Go.RowKit

theorem Blk.new' {W : World} {B : Nat} {vs : Array Value} {t : TypeId} (h : B = W.heap.size) : Blk (W.alloc (.cells vs t)) B vs t := by subst h; exact Blk.new W vs t

def hopsB : Tab := ⟨3, fun _ => 3, fun r c => if r ≤ c then r else c⟩
def hopsE : Tab := ⟨1, fun _ => 3, fun _ c => if c = 0 then 1 else 2⟩
def idE : Tab := ⟨1, fun _ => 3, fun _ c => c⟩

def hopsBM (n : Nat) : Mat := ⟨some ⟨n + 4, 0, none⟩, n + 4, 0, 3, fun r => some ⟨n + 1 + r, 0, none⟩, fun _ => 3, fun r => n + 1 + r, fun _ => 0, hopsB⟩
def hopsEM (n : Nat) : Mat := ⟨some ⟨n + 6, 0, none⟩, n + 6, 0, 1, fun _ => some ⟨n + 5, 0, none⟩, fun _ => 3, fun _ => n + 5, fun _ => 0, hopsE⟩
def hopsM (n : Nat) : AlgM := ⟨3, hopsBM n, hopsEM n⟩
def idEM (n : Nat) : Mat := ⟨some ⟨n + 1, 0, none⟩, n + 1, 0, 1, fun _ => some ⟨n, 0, none⟩, fun _ => 3, fun _ => n, fun _ => 0, idE⟩

theorem hopsBM_in {n k : Nat} {w : World} (b1 : Blk w (n + 1) #[.int .i64 0, .int .i64 0, .int .i64 0] 3) (b2 : Blk w (n + 2) #[.int .i64 0, .int .i64 1, .int .i64 1] 3) (b3 : Blk w (n + 3) #[.int .i64 0, .int .i64 1, .int .i64 2] 3)
    (b4 : Blk w (n + 4) #[.slice (some ⟨n + 1, 0, none⟩) 3 3, .slice (some ⟨n + 2, 0, none⟩) 3 3, .slice (some ⟨n + 3, 0, none⟩) 3 3] 22) (hk : n + 4 < k) : (hopsBM n).In k w where
  ga := fun _ => rfl
  gb := fun _ => hk
  row := fun r hr => by
    have hr' : r < 3 := hr
    match r, hr' with
    | 0, _ => exact b4.cell 0
    | 1, _ => exact b4.cell 1
    | 2, _ => exact b4.cell 2
  addr := fun r hr _ => ⟨rfl, by have hr' : r < 3 := hr; show n + 1 + r < k; omega⟩
  cell := fun r hr c hc => by
    have hr' : r < 3 := hr
    have hc' : c < 3 := hc
    match r, hr', c, hc' with
    | 0, _, 0, _ => exact b1.cell 0
    | 0, _, 1, _ => exact b1.cell 1
    | 0, _, 2, _ => exact b1.cell 2
    | 1, _, 0, _ => exact b2.cell 0
    | 1, _, 1, _ => exact b2.cell 1
    | 1, _, 2, _ => exact b2.cell 2
    | 2, _, 0, _ => exact b3.cell 0
    | 2, _, 1, _ => exact b3.cell 1
    | 2, _, 2, _ => exact b3.cell 2
  len := by show 3 ≤ maxLen; unfold maxLen; omega
  lens := fun _ _ => by show 3 ≤ maxLen; unfold maxLen; omega

theorem hopsEM_in {n k : Nat} {w : World} (b5 : Blk w (n + 5) #[.int .i64 1, .int .i64 2, .int .i64 2] 3) (b6 : Blk w (n + 6) #[.slice (some ⟨n + 5, 0, none⟩) 3 3] 22) (hk : n + 6 < k) : (hopsEM n).In k w where
  ga := fun _ => rfl
  gb := fun _ => hk
  row := fun r hr => by
    have hr' : r < 1 := hr
    match r, hr' with
    | 0, _ => exact b6.cell 0
  addr := fun r hr _ => ⟨rfl, by show n + 5 < k; omega⟩
  cell := fun r hr c hc => by
    have hc' : c < 3 := hc
    match c, hc' with
    | 0, _ => exact b5.cell 0
    | 1, _ => exact b5.cell 1
    | 2, _ => exact b5.cell 2
  len := by show 1 ≤ maxLen; unfold maxLen; omega
  lens := fun _ _ => by show 3 ≤ maxLen; unfold maxLen; omega

theorem idEM_in {n k : Nat} {w : World} (b5 : Blk w n #[.int .i64 0, .int .i64 1, .int .i64 2] 3) (b6 : Blk w (n + 1) #[.slice (some ⟨n, 0, none⟩) 3 3] 22) (hk : n + 1 < k) : (idEM n).In k w where
  ga := fun _ => rfl
  gb := fun _ => hk
  row := fun r hr => by
    have hr' : r < 1 := hr
    match r, hr' with
    | 0, _ => exact b6.cell 0
  addr := fun r hr _ => ⟨rfl, by show n < k; omega⟩
  cell := fun r hr c hc => by
    have hc' : c < 3 := hc
    match c, hc' with
    | 0, _ => exact b5.cell 0
    | 1, _ => exact b5.cell 1
    | 2, _ => exact b5.cell 2
  len := by show 1 ≤ maxLen; unfold maxLen; omega
  lens := fun _ _ => by show 3 ≤ maxLen; unfold maxLen; omega

set_option maxHeartbeats 1000000 in
theorem hops_any (w : World) :
    Calls Try.prog 76 #[] w fun e w' => e = .returned (hopsM w.heap.size).val ∧ (hopsM w.heap.size).In w'.heap.size w' ∧ Below w.heap.size w w' := by
  go_enter Try.func76, Try.ntmps76
  go_wp2
  refine bodyPost_ret (v := (hopsM w.heap.size).val) (by simp [results, Try.results76, go_sem, hopsM, AlgM.val, Mat.val, hopsBM, hopsEM, hopsB, hopsE]) rfl ⟨rfl, ⟨?_, ?_⟩, ?_⟩
  · refine hopsBM_in ?_ ?_ ?_ ?_ (by simp)
    all_goals repeat (first | exact Blk.new' (by simp) | refine Blk.alloc ?_ _)
  · refine hopsEM_in ?_ ?_ (by simp)
    all_goals repeat (first | exact Blk.new' (by simp) | refine Blk.alloc ?_ _)
  · exact ((((((((Below.refl _ w).alloc (Nat.le_refl _) _).alloc (by simp) _).alloc (by simp; omega) _).alloc (by simp; omega) _).alloc (by simp; omega) _).alloc (by simp; omega) _).alloc (by simp; omega) _)

theorem hops_check : Alg.check ⟨3, hopsB, hopsE⟩ = 0 := by decide +kernel
theorem hops_laws : Alg.tell ⟨3, hopsB, hopsE⟩ [1, 2, 3, 4, 5, 6, 7] = Brk.none := Brk.same_iff.1 (by decide +kernel)
theorem id_check : Alg.check ⟨3, hopsB, idE⟩ = 0 := by decide +kernel
theorem id_strict : Alg.tell ⟨3, hopsB, idE⟩ [8] = ⟨8, 0, 0, 0, 0⟩ := Brk.same_iff.1 (by decide +kernel)
theorem id_fits : Alg.fitsB ⟨3, hopsB, idE⟩ ⟨8, 0, 0, 0, 0⟩ = true := by decide +kernel
theorem id_holds : Alg.holds ⟨3, hopsB, idE⟩ ⟨8, 0, 0, 0, 0⟩ = false := by decide +kernel

end Go.Proofs.Ytjhkadffaephmab

/-
  Plain mathematics: what is told to be broken does not hold; if nothing is, all hold.
-/
namespace Go.Proofs.Ytjhkadffaephmab
open Go.RowKit

theorem Alg.Good.mem_cases {a : Alg} (g : a.Good) {b : Brk} (f : a.Fits b) : b ∈ a.casesOf b.law := by
  obtain ⟨sa, sb, sc, se, ea, eb, ec, ee, hco, _⟩ := g.spans b.law
  rw [hco]
  obtain ⟨l, x, y, z, e⟩ := b
  have h1 := f.a0
  have h2 := f.a1
  have h3 := f.b0
  have h4 := f.b1
  have h5 := f.c0
  have h6 := f.c1
  have h7 := f.e0
  have h8 := f.e1
  simp only at *
  obtain ⟨x, rfl⟩ := Int.eq_ofNat_of_zero_le h1
  obtain ⟨y, rfl⟩ := Int.eq_ofNat_of_zero_le h3
  obtain ⟨z, rfl⟩ := Int.eq_ofNat_of_zero_le h5
  obtain ⟨e, rfl⟩ := Int.eq_ofNat_of_zero_le h7
  exact casesTo_mem l (by omega) (by omega) (by omega) (by omega)

theorem Alg.Good.fits_cases {a : Alg} (g : a.Good) {l : Int} (l0 : 1 ≤ l) (l1 : l ≤ 9) {b : Brk} (h : b ∈ a.casesOf l) : a.Fits b ∧ b.law = l := by
  obtain ⟨sa, sb, sc, se, ea, eb, ec, ee, hco, _⟩ := g.spans l
  rw [hco] at h
  obtain ⟨rfl, ha, hb, hc, he⟩ := mem_casesA h
  exact ⟨⟨l0, l1, ha.1, by omega, hb.1, by omega, hc.1, by omega, he.1, by omega⟩, rfl⟩

theorem first_spec {a : Alg} {l : Int} : a.first (a.casesOf l) = Brk.none ∧ ((a.casesOf l).find? (fun b => !a.holds b) = none ∨ Brk.none ∈ a.casesOf l) ∨ (a.first (a.casesOf l) ∈ a.casesOf l ∧ a.holds (a.first (a.casesOf l)) = false) := by
  unfold Alg.first
  cases hf : (a.casesOf l).find? (fun b => !a.holds b) with
  | none => exact .inl ⟨rfl, .inl rfl⟩
  | some b =>
    have hb := List.find?_some hf
    exact .inr ⟨List.mem_of_find?_eq_some hf, by simpa using hb⟩

theorem firstOf_spec {a : Alg} : ∀ {ls : List Int}, a.firstOf ls ≠ Brk.none → ∃ l ∈ ls, a.firstOf ls = a.first (a.casesOf l) ∧ a.firstOf ls ∈ a.casesOf l ∧ a.holds (a.firstOf ls) = false
  | [], h => absurd rfl h
  | l :: r, h => by
    by_cases hl : a.first (a.casesOf l) = Brk.none
    · have e : a.firstOf (l :: r) = a.firstOf r := firstOf_go hl
      rw [e] at h ⊢
      obtain ⟨l', hm, h1⟩ := firstOf_spec h
      exact ⟨l', by simp [hm], h1⟩
    · have e : a.firstOf (l :: r) = a.first (a.casesOf l) := firstOf_stop hl
      rw [e]
      rcases first_spec (a := a) (l := l) with h1 | h1
      · exact absurd h1.1 hl
      · exact ⟨l, by simp, rfl, h1⟩

theorem firstOf_all {a : Alg} : ∀ {ls : List Int}, (∀ l ∈ ls, 1 ≤ l) → a.firstOf ls = Brk.none → ∀ l ∈ ls, ∀ b ∈ a.casesOf l, a.holds b = true
  | [], _, _, l, hl => absurd hl (by simp)
  | k :: r, hp, h, l, hl => by
    have hk : a.first (a.casesOf k) = Brk.none := by
      by_cases hk : a.first (a.casesOf k) = Brk.none
      · exact hk
      · rw [firstOf_stop hk] at h; exact absurd h hk
    have hr : a.firstOf r = Brk.none := by rw [firstOf_go hk] at h; exact h
    rcases List.mem_cons.1 hl with rfl | hl
    · intro b hb
      cases hh : a.holds b with
      | true => rfl
      | false =>
        exfalso
        have h1 : ((a.casesOf l).find? (fun b => !a.holds b)).isSome = true := by
          rw [List.find?_isSome]; exact ⟨b, hb, by simp [hh]⟩
        obtain ⟨c, hc⟩ := Option.isSome_iff_exists.1 h1
        have hm := List.mem_of_find?_eq_some hc
        have hcl := (mem_casesA hm).1
        unfold Alg.first at hk
        rw [hc] at hk
        have : c = Brk.none := hk
        rw [this] at hcl
        have := hp l (by simp)
        simp [Brk.none] at hcl
        omega
    · exact firstOf_all (fun l hl => hp l (by simp [hl])) hr l hl

theorem holdsE_fit {a : Alg} (hc : a.check = 0) {b : Brk} (f : a.Fits b) : a.holdsE b = 0 := by
  have hf : a.fitsB b = true := by
    simp only [Alg.fitsB, Bool.and_eq_true, decide_eq_true_eq]
    exact ⟨⟨⟨⟨f.a0, f.a1⟩, f.b0, f.b1⟩, f.c0, f.c1⟩, f.e0, f.e1⟩
  have h0 := f.l0
  have h1 := f.l1
  unfold Alg.holdsE
  rw [if_neg (by simp [hc]), if_neg (by omega), hf]; rfl

theorem fit_of_holdsE {a : Alg} {b : Brk} (h : a.holdsE b = 0) : a.check = 0 ∧ a.Fits b := by
  unfold Alg.holdsE at h
  by_cases hc : a.check = 0
  · rw [if_neg (by simp [hc])] at h
    split at h
    · cases h
    · next hl =>
      cases hf : a.fitsB b with
      | false => rw [hf] at h; simp at h
      | true => exact ⟨hc, Alg.fits_of (by omega) (by omega) hf⟩
  · rw [if_pos hc] at h; exact absurd h hc

/-- What is told to be broken: it fits, it does not hold, its law is one of the seven. -/
theorem tell_broken {a : Alg} (hc : a.check = 0) (h : a.tell [1, 2, 3, 4, 5, 6, 7] ≠ Brk.none) :
    a.holdsE (a.tell [1, 2, 3, 4, 5, 6, 7]) = 0 ∧ a.holds (a.tell [1, 2, 3, 4, 5, 6, 7]) = false ∧ 1 ≤ (a.tell [1, 2, 3, 4, 5, 6, 7]).law ∧ (a.tell [1, 2, 3, 4, 5, 6, 7]).law ≤ 7 := by
  have e : a.tell [1, 2, 3, 4, 5, 6, 7] = a.firstOf [1, 2, 3, 4, 5, 6, 7] := by unfold Alg.tell; rw [if_pos hc]
  rw [e] at h ⊢
  obtain ⟨l, hl, h1, h2, h3⟩ := firstOf_spec h
  have hl' : 1 ≤ l ∧ l ≤ 7 := by simp at hl; omega
  have hf := (Alg.good_of_check hc).fits_cases hl'.1 (by omega) h2
  exact ⟨holdsE_fit hc hf.1, h3, by omega, by omega⟩

/-- If nothing is told to be broken, whatever of the seven is asked for holds. -/
theorem tell_none {a : Alg} {b : Brk} (h : a.tell [1, 2, 3, 4, 5, 6, 7] = Brk.none) (he : a.holdsE b = 0) (hl : b.law ≤ 7) : a.holds b = true := by
  obtain ⟨hc, f⟩ := fit_of_holdsE he
  have e : a.tell [1, 2, 3, 4, 5, 6, 7] = a.firstOf [1, 2, 3, 4, 5, 6, 7] := by unfold Alg.tell; rw [if_pos hc]
  rw [e] at h
  have h0 := f.l0
  exact firstOf_all (by decide) h b.law (by simp; omega) b ((Alg.good_of_check hc).mem_cases f)

end Go.Proofs.Ytjhkadffaephmab

/-
  The arguments as they came: an algebra, and what is told to be broken, out of their readings.
-/
namespace Go.Proofs.Ytjhkadffaephmab
set_option maxRecDepth 100000
open Go.RowKit Go.ChangeShapes Go.WideShapes Go.Joins Go.Deep

theorem Try.cells38 : Try.prog.cellsOf 38 = 3 := by kernel_rfl
theorem Try.cells3 : Try.prog.cellsOf 3 = 1 := by kernel_rfl
theorem Try.cells36 : Try.prog.cellsOf 36 = 1 := by kernel_rfl
theorem Try.cells22 : Try.prog.cellsOf 22 = 1 := by kernel_rfl
theorem Try.cells59 : Try.prog.cellsOf 59 = 5 := by kernel_rfl

theorem array5 {α : Type} {cs : Array α} (h : cs.size = 5) : ∃ a b c d e, cs = #[a, b, c, d, e] := by
  obtain ⟨l⟩ := cs
  match l, h with
  | [a, b, c, d, e], _ => exact ⟨a, b, c, d, e, rfl⟩

section
variable {H : Type} {enc : TypeId × Value → H} {W : World}

theorem open_mat {n : Nat} {v : Value} {y : DataW H × List MemPlace} (h : DataW.trod enc Try.prog W 0 (fun _ => true) true n 36 [v] = some y) : ∃ m : Mat, v = m.val ∧ m.In W.heap.size W := by
  rcases open_int_rows Try.underlying36 Try.underlying22 Try.underlying3 Try.cells22 Try.cells3 h with ⟨hcs, _⟩ | ⟨a, len, cap, A, L, C, Z, hcs, _, hl, hm, _, hrows⟩
  · simp at hcs
    refine ⟨⟨none, 0, 0, 0, fun _ => none, fun _ => 0, fun _ => 0, fun _ => 0, ⟨0, fun _ => 0, fun _ _ => 0⟩⟩, hcs, ⟨?_, ?_, ?_, ?_, ?_, Nat.zero_le _, ?_⟩⟩
    all_goals intro r
    · exact absurd r (Nat.not_lt_zero _)
    · exact absurd r (Nat.not_lt_zero _)
    all_goals
      intro hr
      exact absurd hr (Nat.not_lt_zero _)
  · simp at hcs
    obtain ⟨gb, go, gs⟩ := a
    rcases Nat.eq_zero_or_pos len with hl0 | hlp
    · subst hl0
      refine ⟨⟨some ⟨gb, go, gs⟩, 0, 0, cap, A, C, fun _ => 0, fun _ => 0, ⟨0, fun _ => 0, fun _ _ => 0⟩⟩, hcs, ⟨?_, ?_, ?_, ?_, ?_, Nat.zero_le _, ?_⟩⟩
      all_goals intro r
      · exact absurd r (Nat.not_lt_zero _)
      · exact absurd r (Nat.not_lt_zero _)
      all_goals
        intro hr
        exact absurd hr (Nat.not_lt_zero _)
    · have hgs : gs = none := by simpa [Addr.add] using World.cell?_spot (hrows 0 (by omega)).1
      subst hgs
      have hrow : ∀ r, r < len → W.cell? ⟨gb, go + r, none⟩ = some (.slice (A r) (L r) (C r)) := fun r hr => by rw [← add_plain]; exact (hrows r (by omega)).1
      have hAdr : ∀ r, r < len → ∀ c, c < L r → A r = some ⟨((A r).getD default).block, ((A r).getD default).off, none⟩ ∧ W.cell? ⟨((A r).getD default).block, ((A r).getD default).off + c, none⟩ = some (.int .i64 ((Z r).getD c 0)) := fun r hr c hc => by
        obtain ⟨_, h1, _, hzl, _, h3, h4⟩ := hrows r (by omega)
        cases hA : A r with
        | none => have := h3 hA; omega
        | some a' =>
          obtain ⟨ab, ao, asp⟩ := a'
          obtain ⟨_, hcell⟩ := h4 _ hA
          have has : asp = none := by simpa [Addr.add] using World.cell?_spot (hcell 0 (by omega))
          subst has
          exact ⟨rfl, by have := hcell c (by omega); rwa [add_plain] at this⟩
      refine ⟨⟨some ⟨gb, go, none⟩, gb, go, cap, A, C, fun r => ((A r).getD default).block, fun r => ((A r).getD default).off, ⟨len, L, fun r c => (Z r).getD c 0⟩⟩, hcs, ⟨fun _ => rfl, fun _ => World.block_lt_of_cell? _ _ (hrow 0 hlp), hrow, fun r hr h0 => ⟨(hAdr r hr 0 h0).1, World.block_lt_of_cell? W ⟨((A r).getD default).block, ((A r).getD default).off + 0, none⟩ (hAdr r hr 0 h0).2⟩, fun r hr c hc => (hAdr r hr c hc).2, by show len ≤ maxLen; omega, fun r hr => ?_⟩⟩
      obtain ⟨_, h1, h2, _⟩ := hrows r (by have : r < len := hr; omega)
      show L r ≤ maxLen
      omega

theorem open_alg {b0 : Nat} {v : Value} {d : DataW H} {p : List MemPlace} (hv : Value.okWide Try.prog W .any b0 38 v) (h : DataW.Trod enc Try.prog W 0 (fun _ => true) true 38 v d p) :
    ∃ a : AlgM, v = a.val ∧ a.In W.heap.size W := by
  obtain ⟨c0, c1, c2, y0, y1, y2, m, rfl, rfl, rfl, h0, h1, h2⟩ := open_agg3 Try.underlying38 (by kernel_rfl) Try.cells38 hv h
  obtain ⟨s, e0, _, _⟩ := DataW.trod_int Try.underlying3 h0
  simp at e0
  obtain ⟨B, rfl, hB⟩ := open_mat h1
  obtain ⟨E, rfl, hE⟩ := open_mat h2
  exact ⟨⟨s, B, E⟩, by rw [e0]; rfl, hB, hE⟩

theorem open_brk {b0 : Nat} {v : Value} {d : DataW H} {p : List MemPlace} (hv : Value.okWide Try.prog W .any b0 59 v) (h : DataW.Trod enc Try.prog W 0 (fun _ => true) true 59 v d p) :
    ∃ b : Brk, v = b.val ∧ (Lit.int .i64 b.law).wf = true ∧ (Lit.int .i64 b.a).wf = true ∧ (Lit.int .i64 b.b).wf = true ∧ (Lit.int .i64 b.c).wf = true ∧ (Lit.int .i64 b.e).wf = true := by
  obtain ⟨cs, rfl, hsz⟩ := okWide_struct Try.underlying59 hv
  obtain ⟨c0, c1, c2, c3, c4, rfl⟩ := array5 (hsz.trans Try.cells59)
  obtain ⟨fuel, hf⟩ := h
  obtain ⟨xs, n, _, _, _, hlen, hfs⟩ := DataW.trod_struct Try.underlying59 hf
  match xs, hlen with
  | [y0, y1, y2, y3, y4], _ =>
    have k0 := hfs 0 _ rfl
    have k1 := hfs 1 _ rfl
    have k2 := hfs 2 _ rfl
    have k3 := hfs 3 _ rfl
    have k4 := hfs 4 _ rfl
    simp [Value.cells, Try.cells3] at k0 k1 k2 k3 k4
    obtain ⟨a0, e0, _, w0⟩ := DataW.trod_int Try.underlying3 k0
    obtain ⟨a1, e1, _, w1⟩ := DataW.trod_int Try.underlying3 k1
    obtain ⟨a2, e2, _, w2⟩ := DataW.trod_int Try.underlying3 k2
    obtain ⟨a3, e3, _, w3⟩ := DataW.trod_int Try.underlying3 k3
    obtain ⟨a4, e4, _, w4⟩ := DataW.trod_int Try.underlying3 k4
    simp at e0 e1 e2 e3 e4
    subst e0 e1 e2 e3 e4
    exact ⟨⟨a0, a1, a2, a3, a4⟩, rfl, w0, w1, w2, w3, w4⟩
end

theorem Try.own : ownKnob Try.prog.godebug = none := by kernel_rfl
theorem Try.laidOut : laidOutB Try.prog = true := by kernel_rfl

end Go.Proofs.Ytjhkadffaephmab

/-
  Maps that count: what looking up, counting up and len do, whatever the keys are.
-/
namespace Go.Proofs.Ytjhkadffaephmab
set_option maxRecDepth 100000
open Go.RowKit

theorem ends_keyed : Maps.Keyed Try.prog 205 :=
  Maps.Keyed.of_law (deep_law_laid Try.laidOut (m := 2) (by omega) (by decide +kernel) (by decide +kernel) (by decide +kernel))

theorem Try.cells205 : Try.prog.cellsOf 205 = 2 := by kernel_rfl

/-- The key of two ends. -/
def endsV (f t : Int) : Value := .agg #[.int .i64 f, .int .i64 t]
theorem endsV_inj {f t g u : Int} (h : endsV f t = endsV g u) : f = g ∧ t = u := by simpa [endsV] using h

theorem ends_key {f t : Int} (wf : (Lit.int .i64 f).wf = true) (wt : (Lit.int .i64 t).wf = true) : ∃ l, keyOf Try.prog 205 (endsV f t) = some l := by
  have hkt : Try.prog.keyType 205 = true := by kernel_rfl
  obtain ⟨m, hm⟩ : ∃ m, Try.prog.types.size = m + 1 := ⟨Try.prog.types.size - 1, by kernel_rfl⟩
  refine ⟨.string (keyBytes [.int .i64 f, .int .i64 t]), ?_⟩
  unfold keyOf endsV
  simp only [Try.underlying205]
  rw [if_pos (by simp [hkt, Value.formed, Try.underlying205, Try.cells205]), hm]
  unfold Program.keyLits
  simp only [Try.underlying205, Value.cells]
  simp [Try.cells205, Try.cells3, Program.keyLits, Try.underlying3, wf, wt]

theorem zeroI (w : World) : (zeroValue 3).run Try.prog w = .ok (.int .i64 0) w := by kernel_rfl

/-- The map in block b has these keys, each with its count; of others the count is 0. -/
structure CntAt (k : TypeId) (ks : List Value) (cnt : Value → Int) (b : Nat) (w : World) (es : Array MapEntry) (clock : Nat) : Prop where
  blk : w.heap[b]? = some (.map es clock)
  born : ∀ x ∈ es.toList, x.born < clock
  apart : (es.toList.map (·.born)).Nodup
  keys : es.toList.map (·.key) = ks
  once : ks.Nodup
  vals : ∀ x ∈ es.toList, x.val = .int .i64 (cnt x.key)
  zero : ∀ v, v ∉ ks → cnt v = 0
  kinds : ∀ v ∈ ks, ∃ l, keyOf Try.prog k v = some l

/-- A key more, or none. -/
def Added (ks : List Value) (v : Value) (ks' : List Value) : Prop := (v ∈ ks ∧ ks' = ks) ∨ (v ∉ ks ∧ ks' = ks ++ [v])
theorem Added.mem {ks ks' : List Value} {v : Value} (h : Added ks v ks') (u : Value) : u ∈ ks' ↔ u ∈ ks ∨ u = v := by
  rcases h with ⟨h1, rfl⟩ | ⟨h1, rfl⟩
  · exact ⟨Or.inl, fun h => by rcases h with h | rfl <;> assumption⟩
  · simp

section
variable {t k : TypeId} {ks : List Value} {cnt : Value → Int} {b : Nat} {w : World} {es : Array MapEntry} {clock : Nat}

theorem CntAt.find (h : CntAt k ks cnt b w es clock) (K : Maps.Keyed Try.prog k) {v : Value} {l : Lit} (hv : keyOf Try.prog k v = some l) (W : World) :
    ((Instr.findKey k v es.toList).run Try.prog W = .ok none W ∧ v ∉ ks) ∨ ∃ j x, (Instr.findKey k v es.toList).run Try.prog W = .ok (some (j, x.val)) W ∧ es.toList[j]? = some x ∧ x.key = v ∧ v ∈ ks := by
  rcases K.find W hv es.toList (fun e he => h.kinds e.key (by rw [← h.keys]; exact List.mem_map.2 ⟨e, he, rfl⟩)) with ⟨h1, h2⟩ | ⟨j, e, h1, h2, h3⟩
  · refine Or.inl ⟨h1, fun hm => ?_⟩
    rw [← h.keys] at hm
    obtain ⟨x, hx, e⟩ := List.mem_map.1 hm
    exact h2 x hx e
  · exact Or.inr ⟨j, e, h1, h2, h3, by rw [← h.keys, ← h3]; exact List.mem_map.2 ⟨e, List.mem_of_getElem? h2, rfl⟩⟩

theorem CntAt.look (h : CntAt k ks cnt b w es clock) (K : Maps.Keyed Try.prog k) (ht : Try.prog.underlying t = some (.map k 3)) {v : Value} {l : Lit} (hv : keyOf Try.prog k v = some l) :
    (Instr.lookup t (.map (some b)) v false).run Try.prog w = .ok (.int .i64 (cnt v)) w := by
  rcases h.find K hv w with ⟨h1, h2⟩ | ⟨j, x, h1, h2, h3, _⟩
  · rw [h.zero v h2]
    simp [Instr.lookup, run_underlying ht, MapKept.run_getObj_map h.blk, K.check w _ hv, h1, Result.andThen]
  · have hx := h.vals x (List.mem_of_getElem? h2)
    rw [h3] at hx
    simp [Instr.lookup, run_underlying ht, MapKept.run_getObj_map h.blk, K.check w _ hv, h1, hx, Result.andThen]

theorem CntAt.entry (h : CntAt k ks cnt b w es clock) (K : Maps.Keyed Try.prog k) (ht : Try.prog.underlying t = some (.map k 3)) {v : Value} {l : Lit} (hv : keyOf Try.prog k v = some l) :
    ∃ (st : Nat) (ks' : List Value) (es1 : Array MapEntry) (clock1 : Nat), (Instr.mapEntry t (.map (some b)) v).run Try.prog w = .ok (.tuple #[.int .i64 (cnt v), .int .i64 st]) (ChangeMaps.setBlock w b (.map es1 clock1)) ∧
      Added ks v ks' ∧ CntAt k ks' cnt b (ChangeMaps.setBlock w b (.map es1 clock1)) es1 clock1 ∧
      ∀ n : Int, ∃ (es2 : Array MapEntry), (Instr.entryStore t (.map (some b)) (.int .i64 st) (.int .i64 n)).run Try.prog (ChangeMaps.setBlock w b (.map es1 clock1)) = .ok () (ChangeMaps.setBlock w b (.map es2 clock1)) ∧
        ∀ c : Value → Int, (∀ u, u ≠ v → c u = cnt u) → c v = n → CntAt k ks' c b (ChangeMaps.setBlock w b (.map es2 clock1)) es2 clock1 := by
  have hs : ∀ o, (ChangeMaps.setBlock w b o).heap[b]? = some o := fun o => ChangeMaps.heap_setBlock_same h.blk o
  have hss : ∀ o o', ChangeMaps.setBlock (ChangeMaps.setBlock w b o) b o' = ChangeMaps.setBlock w b o' := fun o o' => by simp [ChangeMaps.setBlock]
  rcases h.find K hv w with ⟨h1, h2⟩ | ⟨j, x, h1, h2, h3, h4⟩
  · have hborn : ((es.push ⟨v, .int .i64 0, clock⟩).toList.map (·.born)).Nodup := by
      simp only [Array.toList_push, List.map_append, List.map_cons, List.map_nil]
      refine List.nodup_append.2 ⟨h.apart, by simp, fun a ha c hc e1 => ?_⟩
      simp only [List.mem_singleton] at hc
      obtain ⟨x, hx, rfl⟩ := List.mem_map.1 ha
      have := h.born x hx
      omega
    have mk : ∀ n : Int, ∀ c : Value → Int, (∀ u, u ≠ v → c u = cnt u) → c v = n → CntAt k (ks ++ [v]) c b (ChangeMaps.setBlock w b (.map (es.push ⟨v, .int .i64 n, clock⟩) (clock + 1))) (es.push ⟨v, .int .i64 n, clock⟩) (clock + 1) := fun n c hc hn => by
      refine ⟨hs _, fun x hx => ?_, ?_, ?_, ?_, fun x hx => ?_, fun u hu => ?_, fun u hu => ?_⟩
      · rw [Array.toList_push, List.mem_append, List.mem_singleton] at hx
        rcases hx with hx | rfl
        · have := h.born x hx; omega
        · show clock < clock + 1; omega
      · simpa using hborn
      · simp [h.keys]
      · refine List.nodup_append.2 ⟨h.once, by simp, fun a ha c hc e1 => ?_⟩
        simp only [List.mem_singleton] at hc
        subst hc
        subst e1
        exact h2 ha
      · rw [Array.toList_push, List.mem_append, List.mem_singleton] at hx
        rcases hx with hx | rfl
        · have hk : x.key ≠ v := fun e => h2 (by rw [← h.keys, ← e]; exact List.mem_map.2 ⟨x, hx, rfl⟩)
          rw [hc _ hk]
          exact h.vals x hx
        · show Value.int .i64 n = .int .i64 (c v)
          rw [hn]
      · simp only [List.mem_append, List.mem_singleton, not_or] at hu
        rw [hc u hu.2]
        exact h.zero u hu.1
      · simp only [List.mem_append, List.mem_singleton] at hu
        rcases hu with hu | rfl
        · exact h.kinds u hu
        · exact ⟨l, hv⟩
    refine ⟨clock, ks ++ [v], es.push ⟨v, .int .i64 0, clock⟩, clock + 1, ?_, Or.inr ⟨h2, rfl⟩, mk 0 cnt (fun _ _ => rfl) (h.zero v h2), fun n => ⟨es.push ⟨v, .int .i64 n, clock⟩, ?_, fun c h5 h6 => mk n c h5 h6⟩⟩
    · rw [h.zero v h2]
      simp [Instr.mapEntry, run_underlying ht, MapKept.run_getObj_map h.blk, K.check w false hv, h1, zeroI w, MapKept.run_setObj_map _ h.blk, Result.andThen, ChangeMaps.setBlock, goInt]
    · have hidx : (es.push ⟨v, .int .i64 0, clock⟩).findIdx? (fun e => ((e.born : Nat) : Int) == ((clock : Nat) : Int)) = some es.size := by
        rw [Array.findIdx?_push]
        have : es.findIdx? (fun e => ((e.born : Nat) : Int) == ((clock : Nat) : Int)) = none := by
          rw [Array.findIdx?_eq_none_iff]
          intro x hx
          have := h.born x (by simpa using hx)
          simp
          omega
        rw [this]
        simp
      have hmod : (es.push ⟨v, .int .i64 0, clock⟩).modify es.size (fun e => { e with val := .int .i64 n }) = es.push ⟨v, .int .i64 n, clock⟩ := by
        apply Array.ext
        · simp
        · intro i i1 i2
          simp only [Array.getElem_modify, Array.getElem_push]
          by_cases e : es.size = i
          · subst e; simp
          · have : i < es.size := by simp at i2; omega
            simp [e, this]
      rw [← hss (.map (es.push ⟨v, .int .i64 0, clock⟩) (clock + 1)) (.map (es.push ⟨v, .int .i64 n, clock⟩) (clock + 1))]
      simp only [Instr.entryStore, Sem.run_bind, MapKept.run_getObj_map (hs (.map (es.push ⟨v, .int .i64 0, clock⟩) (clock + 1))), Result.andThen]
      simp [asInt, asIntOf, hidx, hmod]
      exact MapKept.run_setObj_map _ (hs _)
  · have hj : es[j]? = some x := by simpa using h2
    have hjl : j < es.size := by
      rcases Nat.lt_or_ge j es.size with h' | h'
      · exact h'
      · rw [Array.getElem?_eq_none h'] at hj; cases hj
    have hgj : es[j] = x := by simpa [hjl] using hj
    have hsame : es.modify j (fun e => { e with key := v }) = es := by
      apply Array.ext
      · simp
      · intro i i1 i2
        rw [Array.getElem_modify]
        by_cases e : j = i
        · subst e
          simp only [if_true]
          rw [hgj, ← h3]
        · rw [if_neg e]
    have hself : ChangeMaps.setBlock w b (.map es clock) = w := by
      have hb := h.blk
      unfold ChangeMaps.setBlock
      have : w.heap.setIfInBounds b (.map es clock) = w.heap := by
        apply Array.ext
        · simp
        · intro i i1 i2
          by_cases e : b = i
          · subst e
            simp
            simpa [i2] using hb.symm
          · exact Array.getElem_setIfInBounds_ne i2 e
      rw [this]
    have hvx := h.vals x (List.mem_of_getElem? h2)
    rw [h3] at hvx
    refine ⟨x.born, ks, es, clock, ?_, Or.inl ⟨h4, rfl⟩, by rw [hself]; exact h, fun n => ⟨es.modify j (fun e => { e with val := .int .i64 n }), ?_, fun c h5 h6 => ?_⟩⟩
    · simp [Instr.mapEntry, run_underlying ht, MapKept.run_getObj_map h.blk, K.check w false hv, h1, hj, h3, K.stays w hv, hsame, MapKept.run_setObj_map _ h.blk, Result.andThen, ChangeMaps.setBlock, goInt, hvx]
    · have hidx : es.findIdx? (fun e => ((e.born : Nat) : Int) == ((x.born : Nat) : Int)) = some j := by
        rw [Array.findIdx?_eq_some_iff_getElem]
        refine ⟨hjl, by simp [hgj], fun i hi => ?_⟩
        have hil : i < es.size := by omega
        have hne : es[i].born ≠ es[j].born := fun e => by
          have := h.apart
          rw [List.nodup_iff_pairwise_ne, List.pairwise_iff_getElem] at this
          exact this i j (by simpa using hil) (by simpa using hjl) hi (by simpa using e)
        rw [hgj] at hne
        simp
        omega
      rw [hself]
      simp only [Instr.entryStore, Sem.run_bind, MapKept.run_getObj_map h.blk, Result.andThen]
      simp [asInt, asIntOf, hidx, MapKept.run_setObj_map _ h.blk, ChangeMaps.setBlock]
    · have hget : ∀ (i : Nat) (h' : i < es.size), (es.modify j (fun e => { e with val := .int .i64 n }))[i]'(by simpa using h') = if j = i then { es[i] with val := .int .i64 n } else es[i] := fun i h' => by rw [Array.getElem_modify]
      have hmem : ∀ y ∈ (es.modify j (fun e => { e with val := .int .i64 n })).toList, ∃ i, ∃ h' : i < es.size, y = if j = i then { es[i] with val := .int .i64 n } else es[i] := fun y hy => by
        obtain ⟨i, i1, rfl⟩ := List.getElem_of_mem hy
        have i2 : i < es.size := by simpa using i1
        exact ⟨i, i2, by rw [Array.getElem_toList]; exact hget i i2⟩
      have hmk : ∀ (g : MapEntry → Nat), (∀ y, g { y with val := .int .i64 n } = g y) → (es.modify j (fun e => { e with val := .int .i64 n })).toList.map g = es.toList.map g := fun g hg => by
        apply List.ext_getElem
        · simp
        · intro i i1 i2
          have i3 : i < es.size := by simpa using i2
          simp only [List.getElem_map, Array.getElem_toList]
          rw [hget i i3]
          split
          · rw [hg]
          · rfl
      have hmk2 : (es.modify j (fun e => { e with val := .int .i64 n })).toList.map (·.key) = es.toList.map (·.key) := by
        apply List.ext_getElem
        · simp
        · intro i i1 i2
          have i3 : i < es.size := by simpa using i2
          simp only [List.getElem_map, Array.getElem_toList]
          rw [hget i i3]
          split <;> rfl
      refine ⟨hs _, fun y hy => ?_, by rw [hmk (·.born) (fun _ => rfl)]; exact h.apart, by rw [hmk2]; exact h.keys, h.once, fun y hy => ?_, fun u hu => ?_, h.kinds⟩
      · obtain ⟨i, hi, rfl⟩ := hmem y hy
        have := h.born es[i] (by simp)
        split <;> exact this
      · obtain ⟨i, hi, rfl⟩ := hmem y hy
        split
        · next e =>
          subst e
          show Value.int .i64 n = .int .i64 (c es[j].key)
          rw [hgj, h3, h6]
        · next e =>
          have hk : es[i].key ≠ v := fun e' => by
            have := h.once
            rw [← h.keys, List.nodup_iff_pairwise_ne, List.pairwise_iff_getElem] at this
            rcases Nat.lt_or_gt_of_ne e with hlt | hlt
            · exact this j i (by simpa using hjl) (by simpa using hi) hlt (by simp [hgj, h3, e'])
            · exact this i j (by simpa using hi) (by simpa using hjl) hlt (by simp [hgj, h3, e'])
          rw [h5 _ hk]
          exact h.vals es[i] (by simp)
      · rw [h5 u (fun e => hu (by rw [e]; exact h4))]
        exact h.zero u hu

theorem CntAt.len (h : CntAt k ks cnt b w es clock) (ht : Try.prog.underlying t = some (.map k 3)) (ty : TypeId) : (Builtin.len_ #[t] ty #[.map (some b)]).run Try.prog w = .ok (.int .i64 ks.length) w := by
  have e : ks.length = es.size := by rw [← h.keys]; simp
  rw [e]
  simp [Builtin.len_, run_underlying ht, MapKept.run_getObj_map h.blk, Result.andThen, goInt]

theorem CntAt.keep (h : CntAt k ks cnt b w es clock) {W : World} (e : W.heap[b]? = w.heap[b]?) : CntAt k ks cnt b W es clock :=
  ⟨e.trans h.blk, h.born, h.apart, h.keys, h.once, h.vals, h.zero, h.kinds⟩
theorem CntAt.lt (h : CntAt k ks cnt b w es clock) : b < w.heap.size := (Array.getElem?_eq_some_iff.1 h.blk).1
theorem CntAt.alloc (h : CntAt k ks cnt b w es clock) (o : Obj) : CntAt k ks cnt b (w.alloc o) es clock :=
  h.keep ((World.grownBy_alloc w o none).block b h.lt (by simp))
theorem CntAt.below (h : CntAt k ks cnt b w es clock) {W : World} {m : Nat} (hb : Below m w W) (hm : b < m) : CntAt k ks cnt b W es clock := h.keep (hb.block b hm)
theorem CntAt.grown (h : CntAt k ks cnt b w es clock) (o : Obj) : w.grownBy (ChangeMaps.setBlock w b o) (some b) :=
  ⟨rfl, rfl, rfl, by simp [ChangeMaps.setBlock], fun i _ hi => ChangeMaps.heap_setBlock_other h.blk _ (fun e => hi (by rw [e]))⟩

theorem CntAt.made (w : World) (k : TypeId) : CntAt k [] (fun _ => 0) w.heap.size (w.alloc (.map #[] 0)) #[] 0 where
  blk := (MapKept.heap_alloc w _).1
  born := fun x hx => by simp at hx
  apart := by simp
  keys := by simp
  once := by simp
  vals := fun x hx => by simp at hx
  zero := fun _ _ => rfl
  kinds := fun v hv => by simp at hv
end

end Go.Proofs.Ytjhkadffaephmab

/-
  signpostlaw.algebraBegun: it answers true.
-/
namespace Go.Proofs.Ytjhkadffaephmab
open Go.RowKit

theorem blk5 {W : World} {B : Nat} {t : TypeId} {x : Brk} (h : Blk W B x.cells t) : W.cell? ⟨B, 0, none⟩ = some (.int .i64 x.law) ∧ W.cell? ⟨B, 1, none⟩ = some (.int .i64 x.a) ∧ W.cell? ⟨B, 2, none⟩ = some (.int .i64 x.b) ∧ W.cell? ⟨B, 3, none⟩ = some (.int .i64 x.c) ∧ W.cell? ⟨B, 4, none⟩ = some (.int .i64 x.e) :=
  ⟨h.cell 0, h.cell 1, h.cell 2, h.cell 3, h.cell 4⟩

set_option maxHeartbeats 4000000 in
theorem begun_any (w : World) :
    Calls Try.prog 24 #[] w fun e w' => e = .returned (.bool true) ∧ Below w.heap.size w w' := by
  go_enter Try.func24, Try.ntmps24
  go_wp2_with fail
  go_at_call 76
  refine (hops_any _).mono ?_
  rintro e w1 ⟨rfl, hI1, hb1⟩
  go_wp2_with fail
  go_at_call 75
  refine (laws_any (hopsM w.heap.size) _ hI1).mono ?_
  rintro e w2 ⟨rfl, hb2⟩
  rw [show Alg.tell (hopsM w.heap.size).alg [1, 2, 3, 4, 5, 6, 7] = Brk.none from hops_laws, show (hopsM w.heap.size).alg.check = 0 from hops_check]
  have hB2 := hb1.trans (hb2.mono hb1.size)
  clear hI1 hb1 hb2
  simp only [Brk.val, Brk.none]
  have bL := Blk.new w2 #[.int .i64 0, .int .i64 0, .int .i64 0, .int .i64 0, .int .i64 0] 59
  have hB3 := hB2.alloc hB2.size (.cells #[.int .i64 0, .int .i64 0, .int .i64 0, .int .i64 0, .int .i64 0] 59)
  go_wp2_with fail
  go_at_call 76
  refine (hops_any _).mono ?_
  rintro e w3 ⟨rfl, hI3, hb3⟩
  have bL3 := bL.below hb3 bL.lt
  have hB4 := hB3.trans (hb3.mono hB3.size)
  clear hB2 hB3 hb3 bL
  have hn : (w2.alloc (.cells #[.int .i64 0, .int .i64 0, .int .i64 0, .int .i64 0, .int .i64 0] 59)).heap.size = w2.heap.size + 1 := by simp
  rw [hn] at hI3 ⊢
  generalize w2.heap.size + 1 = n at *
  have hIB := hI3.B
  clear hI3
  simp only [hopsM, AlgM.val, Mat.val, hopsBM, hopsEM, hopsB, hopsE]
  go_wp2_with fail
  have hBa : Below w3.heap.size w3 (((w3.alloc (.cells #[.int .i64 3, .slice (some ⟨n + 4, 0, none⟩) 3 3, .slice (some ⟨w3.heap.size + 1 + 1, 0, none⟩) 1 1] 38)).alloc (.cells #[.int .i64 0, .int .i64 1, .int .i64 2] 3)).alloc (.cells #[.slice (some ⟨w3.heap.size + 1, 0, none⟩) 3 3] 22)) :=
    (((Below.refl _ w3).alloc (Nat.le_refl _) _).alloc (by simp) _).alloc (by simp; omega) _
  have bX : Blk (((w3.alloc (.cells #[.int .i64 3, .slice (some ⟨n + 4, 0, none⟩) 3 3, .slice (some ⟨w3.heap.size + 1 + 1, 0, none⟩) 1 1] 38)).alloc (.cells #[.int .i64 0, .int .i64 1, .int .i64 2] 3)).alloc (.cells #[.slice (some ⟨w3.heap.size + 1, 0, none⟩) 3 3] 22)) w3.heap.size #[.int .i64 3, .slice (some ⟨n + 4, 0, none⟩) 3 3, .slice (some ⟨w3.heap.size + 1 + 1, 0, none⟩) 1 1] 38 :=
    ((Blk.new w3 _ _).alloc _).alloc _
  have hIX : AlgM.In ⟨3, hopsBM n, idEM (w3.heap.size + 1)⟩ (((w3.alloc (.cells #[.int .i64 3, .slice (some ⟨n + 4, 0, none⟩) 3 3, .slice (some ⟨w3.heap.size + 1 + 1, 0, none⟩) 1 1] 38)).alloc (.cells #[.int .i64 0, .int .i64 1, .int .i64 2] 3)).alloc (.cells #[.slice (some ⟨w3.heap.size + 1, 0, none⟩) 3 3] 22)).heap.size (((w3.alloc (.cells #[.int .i64 3, .slice (some ⟨n + 4, 0, none⟩) 3 3, .slice (some ⟨w3.heap.size + 1 + 1, 0, none⟩) 1 1] 38)).alloc (.cells #[.int .i64 0, .int .i64 1, .int .i64 2] 3)).alloc (.cells #[.slice (some ⟨w3.heap.size + 1, 0, none⟩) 3 3] 22)) := by
    refine ⟨(hIB.below hBa (Nat.le_refl _)).mono hBa.size, idEM_in ?_ ?_ (by simp)⟩
    all_goals repeat (first | exact Blk.new' (by simp) | refine Blk.alloc ?_ _)
  have hcs := strict_any ⟨3, hopsBM n, idEM (w3.heap.size + 1)⟩ _ hIX
  rw [show Alg.tell (AlgM.alg ⟨3, hopsBM n, idEM (w3.heap.size + 1)⟩) [8] = ⟨8, 0, 0, 0, 0⟩ from id_strict, show Alg.check (AlgM.alg ⟨3, hopsBM n, idEM (w3.heap.size + 1)⟩) = 0 from id_check] at hcs
  have bL4 := bL3.below hBa bL3.lt
  have hB5 := hB4.trans (hBa.mono hB4.size)
  have HCS := hide hcs
  clear hcs hIB hBa hB4 bL3
  go_at_call 26
  refine HCS.out.mono ?_
  rintro e w4 ⟨rfl, hb4⟩
  have bX4 := bX.below hb4 bX.lt
  have bL5 := bL4.below hb4 bL4.lt
  have hI4 := (hIX.below hb4 (Nat.le_refl _)).mono hb4.size
  have hB6 := hB5.trans (hb4.mono hB5.size)
  clear HCS hb4 bX bL4 hIX hB5
  simp only [Brk.val]
  have hBn : Below w4.heap.size w4 (w4.alloc (.cells #[.int .i64 8, .int .i64 0, .int .i64 0, .int .i64 0, .int .i64 0] 59)) := (Below.refl _ _).alloc (Nat.le_refl _) _
  have bC := Blk.new w4 #[.int .i64 8, .int .i64 0, .int .i64 0, .int .i64 0, .int .i64 0] 59
  have bX5 := bX4.below hBn bX4.lt
  have bL6 := bL5.below hBn bL5.lt
  have hI5 := (hI4.below hBn (Nat.le_refl _)).mono hBn.size
  have hB7 := hB6.trans (hBn.mono hB6.size)
  have hx0 := bX5.cell 0
  have hx1 := bX5.cell 1
  have hx2 := bX5.cell 2
  simp at hx0 hx1 hx2
  have hch := holdsE_law ⟨3, hopsBM n, idEM (w3.heap.size + 1)⟩ ⟨8, 0, 0, 0, 0⟩ _ hI5 id_check (by decide) (by decide)
  rw [show Alg.fitsB (AlgM.alg ⟨3, hopsBM n, idEM (w3.heap.size + 1)⟩) ⟨8, 0, 0, 0, 0⟩ = true from id_fits, show Alg.holds (AlgM.alg ⟨3, hopsBM n, idEM (w3.heap.size + 1)⟩) ⟨8, 0, 0, 0, 0⟩ = false from id_holds] at hch
  have HCH := hide hch
  clear hch hBn bX4 bL5 hI4 hB6
  go_wp2_with fail
  go_at_call 77
  refine HCH.out.mono ?_
  rintro e w5 ⟨rfl, hb5⟩
  have bL7 := bL6.below hb5 bL6.lt
  have bC7 := bC.below hb5 bC.lt
  have hB8 := hB7.trans (hb5.mono hB7.size)
  clear hb5 bC bL6 hB7 HCH hI5 bX5 hx0 hx1 hx2
  go_wp2_with fail
  go_at_call 76
  refine (hops_any _).mono ?_
  rintro e w6 ⟨rfl, hI6, hb6⟩
  have bL8 := bL7.below hb6 bL7.lt
  have bC8 := bC7.below hb6 bC7.lt
  have hB9 := hB8.trans (hb6.mono hB8.size)
  clear hb6 bC7 bL7 hB8
  have hck := check_any (hopsM w5.heap.size) _ _ hI6 (Nat.le_refl _)
  rw [show Alg.check (hopsM w5.heap.size).alg = 0 from hops_check] at hck
  have HCK := hide hck
  clear hck
  go_wp2_with fail
  go_at_call 78
  refine HCK.out.mono ?_
  rintro e w7 ⟨rfl, hb7⟩
  have bL9 := bL8.below hb7 bL8.lt
  have bC9 := bC8.below hb7 bC8.lt
  have hBA := hB9.trans (hb7.mono hB9.size)
  have hl0 := bL9.cell 0
  have hc0 := bC9.cell 0
  simp at hl0 hc0
  clear HCK hb7 bL8 bC8 hI6 hB9
  go_wp2
  go_ret
  exact ⟨rfl, hBA⟩

end Go.Proofs.Ytjhkadffaephmab
