/-
  What is built of a right plan breaks no law: plain mathematics.
-/
import Derived.Test.YtjhkadffaephmaaPlanG
import Derived.Test.YtjhkadffaephmaaPureD
namespace Go.Proofs.Ytjhkadffaephmaa
set_option maxRecDepth 100000

/-- It breaks none of its laws (that best is one of the two is part of Ok). -/
structure NAlg.Law (x : NAlg) : Prop where
  comm : ∀ a b, a < x.size → b < x.size → x.best a b = x.best b a
  trans : ∀ a b c, a < x.size → b < x.size → c < x.size → x.best a b = a → x.best b c = b → x.best a c = a
  zero : ∀ a, a < x.size → x.best 0 a = 0
  last : ∀ a, a < x.size → x.best (x.size - 1) a = a
  elast : ∀ e, e < x.el → x.edge e (x.size - 1) = x.size - 1
  incr : ∀ e a, e < x.el → a < x.size → x.best a (x.edge e a) = a

/-- No edge keeps a route, but the last. -/
def NAlg.Str (x : NAlg) : Prop := ∀ e a, e < x.el → a < x.size - 1 → x.edge e a ≠ a

theorem NAlg.Law.assoc {x : NAlg} (h : x.Law) (hx : x.Ok) {a b c : Nat} (ha : a < x.size) (hb : b < x.size) (hc : c < x.size) : x.best a (x.best b c) = x.best (x.best a b) c := by
  rcases hx.sel b c with e1 | e1
  · rcases hx.sel a b with e2 | e2
    · rw [e1, e2, h.trans a b c ha hb hc e2 e1]
    · rw [e1, e2, e1]
  · rcases hx.sel a b with e2 | e2
    · rw [e1, e2]
    · rw [e1, e2, e1]
      have := h.trans c b a hc hb ha (by rw [h.comm c b hc hb, e1]) (by rw [h.comm b a hb ha, e2])
      rw [h.comm a c ha hc, this]

theorem hops_law {n en : Nat} {ev : Nat → Nat} : (hopsN n en ev).Law where
  comm := fun a b _ _ => by show min a b = min b a; omega
  trans := fun a b c _ _ _ h1 h2 => by
    have h1 : min a b = a := h1
    have h2 : min b c = b := h2
    show min a c = a
    omega
  zero := fun a _ => by show min 0 a = 0; omega
  last := fun a h => by
    have h : a < n + 2 := h
    show min (n + 2 - 1) a = a
    omega
  elast := fun e _ => by show min (n + 2 - 1 + ev e) (n + 1) = n + 2 - 1; omega
  incr := fun e a _ h => by
    have h : a < n + 2 := h
    show min a (min (a + ev e) (n + 1)) = a
    omega
theorem hops_str {n en : Nat} {ev : Nat → Nat} (hv : ∀ e, e < en → 1 ≤ ev e) : (hopsN n en ev).Str := fun e a he ha => by
  have := hv e he
  have ha : a < n + 2 - 1 := ha
  show min (a + ev e) (n + 1) ≠ a
  omega
theorem wide_law {n en : Nat} {ev : Nat → Nat} (hv : ∀ e, e < en → ev e ≤ n) : (wideN n en ev).Law where
  comm := fun a b _ _ => by show min a b = min b a; omega
  trans := fun a b c _ _ _ h1 h2 => by
    have h1 : min a b = a := h1
    have h2 : min b c = b := h2
    show min a c = a
    omega
  zero := fun a _ => by show min 0 a = 0; omega
  last := fun a h => by
    have h : a < n + 2 := h
    show min (n + 2 - 1) a = a
    omega
  elast := fun e he => by
    have := hv e he
    show max (n + 2 - 1) (ev e) = n + 2 - 1
    omega
  incr := fun e a _ _ => by show min a (max a (ev e)) = a; omega
theorem filt_law {x : NAlg} {ev : Nat → Nat} (hx : x.Ok) (h : x.Law) : (filtN x ev).Law where
  comm := h.comm
  trans := h.trans
  zero := h.zero
  last := h.last
  elast := fun e he => by
    show (if (ev e).testBit (x.size - 1) then x.size - 1 else x.edge e (x.size - 1)) = x.size - 1
    rw [h.elast e he]
    split <;> rfl
  incr := fun e a he ha => by
    show x.best a (if (ev e).testBit a then x.size - 1 else x.edge e a) = a
    have hlo := hx.lo
    split
    · rw [h.comm a _ ha (by omega)]; exact h.last a ha
    · exact h.incr e a he ha

section
variable {x y : NAlg}

/-- The first is no worse, by x, then by y. -/
def Lex (x y : NAlg) (a b : Nat) : Prop :=
  (a / (y.size - 1) = b / (y.size - 1) ∧ y.best (a % (y.size - 1)) (b % (y.size - 1)) = a % (y.size - 1)) ∨ (a / (y.size - 1) ≠ b / (y.size - 1) ∧ x.best (a / (y.size - 1)) (b / (y.size - 1)) = a / (y.size - 1))

theorem pair_last (a : Nat) : pairBest x y ((x.size - 1) * (y.size - 1)) a = a := by unfold pairBest; rw [if_pos rfl]
theorem pair_any (a : Nat) : pairBest x y a ((x.size - 1) * (y.size - 1)) = a := by
  unfold pairBest
  by_cases h : a = (x.size - 1) * (y.size - 1)
  · rw [if_pos h, h]
  · rw [if_neg h, if_pos rfl]
theorem pair_lex {a b : Nat} (ha : a < (x.size - 1) * (y.size - 1)) (hb : b < (x.size - 1) * (y.size - 1)) : pairBest x y a b = a ↔ Lex x y a b := by
  unfold pairBest Lex
  rw [if_neg (by omega), if_neg (by omega)]
  have d := Nat.div_add_mod' a (y.size - 1)
  by_cases h : a / (y.size - 1) = b / (y.size - 1)
  · rw [if_pos h]
    constructor
    · intro e; exact Or.inl ⟨h, by omega⟩
    · intro e
      rcases e with ⟨_, e⟩ | ⟨e, _⟩
      · rw [e]; exact d
      · exact absurd h e
  · rw [if_neg h]
    by_cases h4 : x.best (a / (y.size - 1)) (b / (y.size - 1)) = a / (y.size - 1)
    · rw [if_pos h4]
      exact ⟨fun _ => Or.inr ⟨h, h4⟩, fun _ => rfl⟩
    · rw [if_neg h4]
      constructor
      · intro e; rw [e] at h; exact absurd rfl h
      · intro e
        rcases e with ⟨e, _⟩ | ⟨_, e⟩
        · exact absurd e h
        · exact absurd e h4

theorem part_x {a : Nat} (hy : y.Ok) (ha : a < (x.size - 1) * (y.size - 1)) : a / (y.size - 1) < x.size - 1 := by
  have := hy.lo
  rw [Nat.div_lt_iff_lt_mul (by omega)]
  exact ha
theorem part_y (hy : y.Ok) (a : Nat) : a % (y.size - 1) < y.size - 1 := by
  have := hy.lo
  exact Nat.mod_lt _ (by omega)
theorem part_mk (hy : y.Ok) {p q : Nat} (hq : q < y.size - 1) : (p * (y.size - 1) + q) / (y.size - 1) = p ∧ (p * (y.size - 1) + q) % (y.size - 1) = q := by
  have := hy.lo
  constructor
  · rw [Nat.mul_comm, Nat.mul_add_div (by omega), Nat.div_eq_of_lt hq]; rfl
  · rw [Nat.mul_comm, Nat.mul_add_mod, Nat.mod_eq_of_lt hq]

theorem lex_trans (hy : y.Ok) (lx : x.Law) (ly : y.Law) {a b c : Nat} (ha : a < (x.size - 1) * (y.size - 1)) (hb : b < (x.size - 1) * (y.size - 1)) (hc : c < (x.size - 1) * (y.size - 1))
    (h1 : Lex x y a b) (h2 : Lex x y b c) : Lex x y a c := by
  have pa := part_x (x := x) hy ha
  have pb := part_x (x := x) hy hb
  have pc := part_x (x := x) hy hc
  have qa := part_y hy a
  have qb := part_y hy b
  have qc := part_y hy c
  unfold Lex at *
  generalize a / (y.size - 1) = p1 at *
  generalize b / (y.size - 1) = p2 at *
  generalize c / (y.size - 1) = p3 at *
  generalize a % (y.size - 1) = q1 at *
  generalize b % (y.size - 1) = q2 at *
  generalize c % (y.size - 1) = q3 at *
  rcases h1 with ⟨e1, f1⟩ | ⟨e1, f1⟩
  · rcases h2 with ⟨e2, f2⟩ | ⟨e2, f2⟩
    · exact Or.inl ⟨e1.trans e2, ly.trans q1 q2 q3 (by omega) (by omega) (by omega) f1 f2⟩
    · subst e1
      exact Or.inr ⟨e2, f2⟩
  · rcases h2 with ⟨e2, f2⟩ | ⟨e2, f2⟩
    · subst e2
      exact Or.inr ⟨e1, f1⟩
    · by_cases e : p1 = p3
      · subst e
        have := lx.comm p1 p2 (by omega) (by omega)
        rw [f1, f2] at this
        exact absurd this e1
      · exact Or.inr ⟨e, lx.trans p1 p2 p3 (by omega) (by omega) (by omega) f1 f2⟩

theorem pair_law (hx : x.Ok) (hy : y.Ok) (lx : x.Law) (ly : y.Law) (hel : x.el = y.el) : (pairN x y).Law where
  comm := fun a b ha hb => by
    show pairBest x y a b = pairBest x y b a
    have ha : a < (x.size - 1) * (y.size - 1) + 1 := ha
    have hb : b < (x.size - 1) * (y.size - 1) + 1 := hb
    by_cases h1 : a = (x.size - 1) * (y.size - 1)
    · subst h1; rw [pair_last, pair_any]
    by_cases h2 : b = (x.size - 1) * (y.size - 1)
    · subst h2; rw [pair_last, pair_any]
    have pa := part_x (x := x) hy (a := a) (by omega)
    have pb := part_x (x := x) hy (a := b) (by omega)
    unfold pairBest
    rw [if_neg h1, if_neg h2, if_neg h2, if_neg h1]
    by_cases h3 : a / (y.size - 1) = b / (y.size - 1)
    · rw [if_pos h3, if_pos h3.symm, h3, ly.comm _ _ (Nat.lt_of_lt_of_le (part_y hy a) (Nat.sub_le _ _)) (Nat.lt_of_lt_of_le (part_y hy b) (Nat.sub_le _ _))]
    · have n3 : ¬ b / (y.size - 1) = a / (y.size - 1) := fun e => h3 e.symm
      rw [if_neg h3, if_neg n3, lx.comm (b / (y.size - 1)) (a / (y.size - 1)) (by omega) (by omega)]
      rcases hx.sel (a / (y.size - 1)) (b / (y.size - 1)) with e | e
      · rw [if_pos e, if_neg (by rw [e]; exact h3)]
      · rw [if_neg (by rw [e]; exact n3), if_pos e]
  trans := fun a b c ha hb hc h1 h2 => by
    have h1 : pairBest x y a b = a := h1
    have h2 : pairBest x y b c = b := h2
    show pairBest x y a c = a
    have ha : a < (x.size - 1) * (y.size - 1) + 1 := ha
    have hb : b < (x.size - 1) * (y.size - 1) + 1 := hb
    have hc : c < (x.size - 1) * (y.size - 1) + 1 := hc
    by_cases e3 : c = (x.size - 1) * (y.size - 1)
    · subst e3; exact pair_any a
    by_cases e2 : b = (x.size - 1) * (y.size - 1)
    · subst e2; rw [pair_last] at h2; exact absurd h2 e3
    by_cases e1 : a = (x.size - 1) * (y.size - 1)
    · subst e1; rw [pair_last] at h1; exact absurd h1 e2
    rw [pair_lex (by omega) (by omega)] at h1 h2 ⊢
    exact lex_trans hy lx ly (by omega) (by omega) (by omega) h1 h2
  zero := fun a ha => by
    show pairBest x y 0 a = 0
    have ha : a < (x.size - 1) * (y.size - 1) + 1 := ha
    have l1 := hx.lo
    have l2 := hy.lo
    have hN : 2 * 2 ≤ (x.size - 1) * (y.size - 1) := Nat.mul_le_mul (by omega) (by omega)
    by_cases e : a = (x.size - 1) * (y.size - 1)
    · subst e; exact pair_any 0
    rw [pair_lex (by omega) (by omega)]
    unfold Lex
    have pa := part_x (x := x) hy (a := a) (by omega)
    have qa := part_y hy a
    simp only [Nat.zero_div, Nat.zero_mod]
    by_cases h : 0 = a / (y.size - 1)
    · exact Or.inl ⟨h, ly.zero _ (by omega)⟩
    · exact Or.inr ⟨h, lx.zero _ (by omega)⟩
  last := fun a _ => pair_last a
  elast := fun e _ => by
    show pairEdge x y e ((x.size - 1) * (y.size - 1)) = (x.size - 1) * (y.size - 1)
    unfold pairEdge
    rw [if_pos rfl]
  incr := fun e a he ha => by
    show pairBest x y a (pairEdge x y e a) = a
    have he : e < x.el := he
    have ha : a < (x.size - 1) * (y.size - 1) + 1 := ha
    have l1 := hx.lo
    have l2 := hy.lo
    unfold pairEdge
    by_cases h1 : a = (x.size - 1) * (y.size - 1)
    · rw [if_pos h1]; exact pair_any a
    rw [if_neg h1]
    have pa := part_x (x := x) hy (a := a) (by omega)
    have qa := part_y hy a
    have e1 := hx.elt e _ he (show a / (y.size - 1) < x.size by omega)
    have e2 := hy.elt e _ (by rw [← hel]; exact he) (show a % (y.size - 1) < y.size by omega)
    have i1 := lx.incr e _ he (show a / (y.size - 1) < x.size by omega)
    have i2 := ly.incr e _ (by rw [← hel]; exact he) (show a % (y.size - 1) < y.size by omega)
    split
    · exact pair_any a
    · rename_i hn
      have n1 : x.edge e (a / (y.size - 1)) ≠ x.size - 1 := fun hh => hn (Or.inl hh)
      have n2 : y.edge e (a % (y.size - 1)) ≠ y.size - 1 := fun hh => hn (Or.inr hh)
      have hp := pair_place (x := x.edge e (a / (y.size - 1))) (q := y.edge e (a % (y.size - 1))) (s1 := x.size - 1) (s2 := y.size - 1) (by omega) (by omega) (by omega)
      rw [pair_lex (by omega) hp]
      unfold Lex
      obtain ⟨m1, m2⟩ := part_mk hy (p := x.edge e (a / (y.size - 1))) (q := y.edge e (a % (y.size - 1))) (by omega)
      rw [m1, m2]
      by_cases h : a / (y.size - 1) = x.edge e (a / (y.size - 1))
      · exact Or.inl ⟨h, i2⟩
      · exact Or.inr ⟨h, i1⟩

theorem pair_str (hx : x.Ok) (hy : y.Ok) (hel : x.el = y.el) (h : x.Str ∨ y.Str) : (pairN x y).Str := fun e a he ha => by
  have he : e < x.el := he
  have ha : a < (x.size - 1) * (y.size - 1) + 1 - 1 := ha
  show pairEdge x y e a ≠ a
  have l1 := hx.lo
  have l2 := hy.lo
  unfold pairEdge
  rw [if_neg (by omega)]
  have pa := part_x (x := x) hy (a := a) (by omega)
  have qa := part_y hy a
  have e2 := hy.elt e _ (by rw [← hel]; exact he) (show a % (y.size - 1) < y.size by omega)
  split
  · omega
  · rename_i hn
    intro heq
    have n2 : y.edge e (a % (y.size - 1)) ≠ y.size - 1 := fun hh => hn (Or.inr hh)
    obtain ⟨m1, m2⟩ := part_mk hy (p := x.edge e (a / (y.size - 1))) (q := y.edge e (a % (y.size - 1))) (by omega)
    rw [heq] at m1 m2
    rcases h with h | h
    · exact h e _ he pa m1.symm
    · exact h e _ (by rw [← hel]; exact he) qa m2.symm
end

/-- Each right plan's algebra breaks no law. -/
theorem built_law {p : PlanM} (he : p.err = 0) (hw : p.wide = false) : p.built.Law := by
  induction p using PlanM.ind with
  | no => exact absurd hw (by simp [PlanM.wide])
  | mk h sub ih =>
    obtain ⟨hen, hsw⟩ := wide_sub hw
    simp only [PlanM.built]
    rcases right_of he with ⟨k, pn, n1, n2, ev⟩ | hrest
    · skip
      have k3 : ¬ h.kind = 3 := by omega
      have k4 : ¬ h.kind = 4 := by omega
      simp only [if_neg k3, if_neg k4]
      by_cases k2 : h.kind = 2
      · rw [if_pos k2]
        exact wide_law (fun e hi => by have := ev e hi; unfold PHead.evN; omega)
      · rw [if_neg k2]
        exact hops_law
    rcases hrest with ⟨k, pn, n0, en, e0, e1, g, s⟩ | hrest
    · skip
      obtain ⟨a0, s0, g0⟩ := built_ok e0 (hsw 0 (by omega))
      obtain ⟨a1, s1, g1⟩ := built_ok e1 (hsw 1 (by omega))
      simp only [if_pos k]
      exact pair_law a0 a1 (ih 0 e0 (hsw 0 (by omega))) (ih 1 e1 (hsw 1 (by omega))) (by rw [g0, g1, g])
    obtain ⟨k, pn, n0, e0, en, ev⟩ := hrest
    · skip
      obtain ⟨a0, s0, g0⟩ := built_ok e0 (hsw 0 (by omega))
      have k3 : ¬ h.kind = 3 := by omega
      simp only [if_neg k3, if_pos k]
      exact filt_law a0 (ih 0 e0 (hsw 0 (by omega)))

/-- Of hops it is strict. -/
theorem built_hops {h : PHead} {sub : Nat → PlanM} (he : (PlanM.mk h sub).err = 0) (k : h.kind = 1) : (PlanM.mk h sub).built.Str := by
  simp only [PlanM.built]
  rcases right_of he with ⟨k', pn, n1, n2, ev⟩ | hrest
  · skip
    have k3 : ¬ h.kind = 3 := by omega
    have k4 : ¬ h.kind = 4 := by omega
    have k2 : ¬ h.kind = 2 := by omega
    simp only [if_neg k3, if_neg k4, if_neg k2]
    exact hops_str (fun e hi => by have := ev e hi; unfold PHead.evN; omega)
  rcases hrest with ⟨k', _, _, _, _, _, _, _⟩ | hrest
  · omega
  obtain ⟨k', _, _, _, _, _⟩ := hrest
  · omega

/-- Of a pair it is, if a part is. -/
theorem built_pair {h : PHead} {sub : Nat → PlanM} (he : (PlanM.mk h sub).err = 0) (hw : (PlanM.mk h sub).wide = false) (k : h.kind = 3) {i : Nat} (hi : i < h.pn) (hs : (sub i).built.Str) : (PlanM.mk h sub).built.Str := by
  obtain ⟨hen, hsw⟩ := wide_sub hw
  simp only [PlanM.built]
  rcases right_of he with ⟨k', _, _, _, _⟩ | hrest
  · omega
  rcases hrest with ⟨k', pn, n0, en, e0, e1, g, s⟩ | hrest
  · skip
    obtain ⟨a0, s0, g0⟩ := built_ok e0 (hsw 0 (by omega))
    obtain ⟨a1, s1, g1⟩ := built_ok e1 (hsw 1 (by omega))
    simp only [if_pos k]
    refine pair_str a0 a1 (by rw [g0, g1, g]) ?_
    have : i = 0 ∨ i = 1 := by omega
    rcases this with rfl | rfl
    · exact Or.inl hs
    · exact Or.inr hs
  obtain ⟨k', _, _, _, _, _⟩ := hrest
  · omega

/-! What is told of it. -/

theorem nget_b (x : NAlg) (r s : Int) : x.alg.B.get r s = (x.best r.toNat s.toNat : Int) := rfl
theorem nget_e (x : NAlg) (r s : Int) : x.alg.E.get r s = (x.edge r.toNat s.toNat : Int) := rfl

theorem law_holds {x : NAlg} (hx : x.Ok) (hl : x.Law) {b : Brk} (f : x.alg.Fits b) (h7 : b.law ≤ 7) : x.alg.holds b = true := by
  have g := hx.good
  have l0 := f.l0
  have a0 := f.a0
  have b0 := f.b0
  have c0 := f.c0
  have e0 := f.e0
  have a1 : b.a < (x.size : Int) := f.a_lt g
  have b1 : b.b < (x.size : Int) := f.b_lt g
  have c1 : b.c < (x.size : Int) := f.c_lt g
  have e1 : 6 ≤ b.law → b.e < (x.el : Int) := fun h => f.e_lt h
  have lo := hx.lo
  have hsz : x.alg.size = (x.size : Int) := rfl
  have hA : b.a.toNat < x.size := by omega
  have hB : b.b.toNat < x.size := by omega
  have hC : b.c.toNat < x.size := by omega
  have hAi : ((b.a.toNat : Nat) : Int) = b.a := by omega
  have hBi : ((b.b.toNat : Nat) : Int) = b.b := by omega
  have hl1 : ((x.size : Int) - 1).toNat = x.size - 1 := by omega
  unfold Alg.holds
  simp only [nget_b, nget_e, hsz, Int.toNat_natCast, hl1]
  by_cases k1 : b.law = 1
  · rw [if_pos k1]; simp [hl.comm _ _ hA hB]
  rw [if_neg k1]
  by_cases k2 : b.law = 2
  · rw [if_pos k2]; simp [hl.assoc hx hA hB hC]
  rw [if_neg k2]
  by_cases k3 : b.law = 3
  · rw [if_pos k3]
    rcases hx.sel b.a.toNat b.b.toNat with e | e
    · rw [e, hAi]; simp
    · rw [e, hBi]; simp
  rw [if_neg k3]
  by_cases k4 : b.law = 4
  · rw [if_pos k4]
    have := hl.zero _ hA
    simp [this]
  rw [if_neg k4]
  by_cases k5 : b.law = 5
  · rw [if_pos k5, hl.last _ hA, hAi]; simp
  rw [if_neg k5]
  by_cases k6 : b.law = 6
  · rw [if_pos k6]
    have := e1 (by omega)
    rw [hl.elast _ (show b.e.toNat < x.el by omega)]
    have : ((x.size - 1 : Nat) : Int) = (x.size : Int) - 1 := by omega
    simp [this]
  rw [if_neg k6, if_pos (by omega)]
  have := e1 (by omega)
  rw [hl.incr _ _ (show b.e.toNat < x.el by omega) hA, hAi]
  simp

theorem str_holds {x : NAlg} (hx : x.Ok) (hl : x.Law) (hs : x.Str) {b : Brk} (f : x.alg.Fits b) (h8 : b.law = 8) : x.alg.holds b = true := by
  have g := hx.good
  have a0 := f.a0
  have e0 := f.e0
  have a1 : b.a < (x.size : Int) := f.a_lt g
  have e1 : b.e < (x.el : Int) := f.e_lt (by omega)
  have lo := hx.lo
  have hsz : x.alg.size = (x.size : Int) := rfl
  have hA : b.a.toNat < x.size := by omega
  have hAi : ((b.a.toNat : Nat) : Int) = b.a := by omega
  unfold Alg.holds
  rw [if_neg (by omega), if_neg (by omega), if_neg (by omega), if_neg (by omega), if_neg (by omega), if_neg (by omega), if_neg (by omega), if_pos h8]
  simp only [nget_b, nget_e, hsz, Int.toNat_natCast]
  by_cases e : b.a = (x.size : Int) - 1
  · simp [e]
  · have h1 := hs b.e.toNat b.a.toNat (by omega) (by omega)
    rw [hl.incr _ _ (show b.e.toNat < x.el by omega) hA, hAi]
    simp
    right
    omega

theorem tell_of_all {a : Alg} (g : a.Good) {ls : List Int} (h : ∀ l ∈ ls, ∀ b ∈ a.casesOf l, a.holds b = true) : a.tell ls = Brk.none := by
  unfold Alg.tell
  rw [if_pos g.check]
  induction ls with
  | nil => rfl
  | cons l r ih =>
    rw [firstOf_go (first_of_all (h l (by simp)))]
    exact ih (fun l' hl => h l' (by simp [hl]))

theorem tell_laws {x : NAlg} (hx : x.Ok) (hl : x.Law) : x.alg.tell [1, 2, 3, 4, 5, 6, 7] = Brk.none :=
  tell_of_all hx.good (fun l hm b hb => by
    have hl' : 1 ≤ l ∧ l ≤ 7 := by simp at hm; omega
    obtain ⟨f, e⟩ := hx.good.fits_cases hl'.1 (by omega) hb
    exact law_holds hx hl f (by omega))
theorem tell_strict {x : NAlg} (hx : x.Ok) (hl : x.Law) (hs : x.Str) : x.alg.tell [8] = Brk.none :=
  tell_of_all hx.good (fun l hm b hb => by
    have hl' : l = 8 := by simpa using hm
    obtain ⟨f, e⟩ := hx.good.fits_cases (by omega) (by omega) hb
    exact str_holds hx hl hs f (by omega))

/-- If nothing is told, it is strict. -/
theorem str_of_tell {x : NAlg} (hx : x.Ok) (h : (x.alg.tell [8]).law = 0) : x.Str := fun e a he ha => by
  have g := hx.good
  have hlo := hx.lo
  have ht : x.alg.tell [8] = x.alg.firstOf [8] := by unfold Alg.tell; rw [if_pos g.check]
  have hn : x.alg.firstOf [8] = Brk.none := by
    apply Classical.byContradiction
    intro hne
    obtain ⟨l, hl, _, h2, _⟩ := firstOf_spec hne
    have hl' : l = 8 := by simpa using hl
    obtain ⟨_, e⟩ := g.fits_cases (by omega) (by omega) h2
    rw [ht] at h
    omega
  have hsp : x.alg.Fits ⟨8, (a : Int), 0, 0, (e : Int)⟩ := by
    have r : routesOf 8 = 1 := by decide
    have re : edgeOf 8 = true := by decide
    have hsz : x.alg.size = (x.size : Int) := rfl
    have hel : x.alg.E.len = x.el := rfl
    refine ⟨by simp, by simp, by simp, ?_, by simp, ?_, by simp, ?_, by simp, ?_⟩
    · simp only [spanA, r]; rw [if_pos (by omega), hsz]; omega
    · simp only [spanB, r]; rw [if_neg (by omega)]; omega
    · simp only [spanC, r]; rw [if_neg (by omega)]; omega
    · simp only [spanE, re, if_true, hel]; omega
  have hh := firstOf_all (by simp) hn 8 (by simp) _ (g.mem_cases hsp)
  unfold Alg.holds at hh
  simp only at hh
  rw [if_neg (by omega), if_neg (by omega), if_neg (by omega), if_neg (by omega), if_neg (by omega), if_neg (by omega), if_neg (by omega), if_pos trivial] at hh
  simp only [nget_e, Int.toNat_natCast] at hh
  have hsz : x.alg.size = (x.size : Int) := rfl
  rw [hsz] at hh
  simp only [Bool.or_eq_true, Bool.and_eq_true, beq_iff_eq, bne_iff_ne] at hh
  rcases hh with hh | hh
  · omega
  · have := hh.2; omega

/-- What is told of what was built. -/
theorem res_laws {p : PlanM} (h : p.chk = 0) : p.res.tell [1, 2, 3, 4, 5, 6, 7] = Brk.none ∧ p.res.check = 0 := by
  have he : p.err = 0 ∧ p.wide = false := by
    unfold PlanM.chk at h
    split at h
    · cases h
    · rename_i hm
      exact ⟨h, wide_of_many (d := 4) (by simpa using hm)⟩
  rw [show p.res = p.built.alg by unfold PlanM.res; rw [if_pos h]]
  have ok := (built_ok he.1 he.2).1
  exact ⟨tell_laws ok (built_law he.1 he.2), ok.good.check⟩
theorem chk_parts {p : PlanM} (h : p.chk = 0) : p.err = 0 ∧ p.wide = false ∧ p.res = p.built.alg := by
  have h0 := h
  unfold PlanM.chk at h
  split at h
  · cases h
  · rename_i hm
    exact ⟨h, wide_of_many (d := 4) (by simpa using hm), by unfold PlanM.res; rw [if_pos h0]⟩
theorem res_hops {h : PHead} {sub : Nat → PlanM} (hc : (PlanM.mk h sub).chk = 0) (k : h.kind = 1) : (PlanM.mk h sub).res.tell [8] = Brk.none := by
  obtain ⟨h1, h2, h3⟩ := chk_parts hc
  rw [h3]
  exact tell_strict (built_ok h1 h2).1 (built_law h1 h2) (built_hops h1 k)
theorem res_pair {h : PHead} {sub : Nat → PlanM} (hc : (PlanM.mk h sub).chk = 0) (k : h.kind = 3) {i : Nat} (hi : i < h.pn) (hs : (sub i).chk = 0) (ht : ((sub i).res.tell [8]).law = 0) : (PlanM.mk h sub).res.tell [8] = Brk.none := by
  obtain ⟨h1, h2, h3⟩ := chk_parts hc
  obtain ⟨g1, g2, g3⟩ := chk_parts hs
  rw [g3] at ht
  rw [h3]
  exact tell_strict (built_ok h1 h2).1 (built_law h1 h2) (built_pair h1 h2 k hi (str_of_tell (built_ok g1 g2).1 ht))

end Go.Proofs.Ytjhkadffaephmaa
