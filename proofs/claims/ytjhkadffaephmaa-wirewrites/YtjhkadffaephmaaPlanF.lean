/-
  The algebras that plans mean: plain mathematics.
-/
import Derived.Test.YtjhkadffaephmaaPlanC
import Derived.Test.YtjhkadffaephmaaPureB
namespace Go.Proofs.Ytjhkadffaephmaa

/-- An algebra of numbers. -/
structure NAlg where
  size : Nat
  best : Nat → Nat → Nat
  el : Nat
  edge : Nat → Nat → Nat

def NAlg.B (x : NAlg) : Tab := ⟨x.size, fun _ => x.size, fun r c => (x.best r c : Int)⟩
def NAlg.E (x : NAlg) : Tab := ⟨x.el, fun _ => x.size, fun e a => (x.edge e a : Int)⟩
def NAlg.alg (x : NAlg) : Alg := ⟨x.size, x.B, x.E⟩

/-- What is built is of this kind. -/
structure NAlg.Ok (x : NAlg) : Prop where
  lo : 3 ≤ x.size
  hi : x.size ≤ 24
  el : x.el ≤ 8
  sel : ∀ a b, x.best a b = a ∨ x.best a b = b
  elt : ∀ e a, e < x.el → a < x.size → x.edge e a < x.size

theorem NAlg.Ok.blt {x : NAlg} (h : x.Ok) {a b n : Nat} (ha : a < n) (hb : b < n) : x.best a b < n := by
  rcases h.sel a b with e | e <;> rw [e] <;> assumption

theorem NAlg.Ok.good {x : NAlg} (h : x.Ok) : x.alg.Good where
  lo := by have := h.lo; show (2 : Int) ≤ (x.size : Int); omega
  hi := by have := h.hi; show (x.size : Int) ≤ 24; omega
  el := h.el
  bl := rfl
  bw := fun _ _ => rfl
  ew := fun _ _ => rfl
  bz := fun r hr c hc => by
    have := h.blt (n := x.size) hr hc
    show (0 : Int) ≤ (x.best r c : Int) ∧ (x.best r c : Int) < (x.size : Int)
    omega
  ez := fun r hr c hc => by
    have := h.elt r c hr hc
    show (0 : Int) ≤ (x.edge r c : Int) ∧ (x.edge r c : Int) < (x.size : Int)
    omega

def hopsN (n : Nat) (en : Nat) (ev : Nat → Nat) : NAlg := ⟨n + 2, fun a b => min a b, en, fun e a => min (a + ev e) (n + 1)⟩
def wideN (n : Nat) (en : Nat) (ev : Nat → Nat) : NAlg := ⟨n + 2, fun a b => min a b, en, fun e a => max a (ev e)⟩
def pairBest (x y : NAlg) (a b : Nat) : Nat :=
  if a = (x.size - 1) * (y.size - 1) then b else if b = (x.size - 1) * (y.size - 1) then a
  else if a / (y.size - 1) = b / (y.size - 1) then a / (y.size - 1) * (y.size - 1) + y.best (a % (y.size - 1)) (b % (y.size - 1))
  else if x.best (a / (y.size - 1)) (b / (y.size - 1)) = a / (y.size - 1) then a else b
def pairEdge (x y : NAlg) (e a : Nat) : Nat :=
  if a = (x.size - 1) * (y.size - 1) then (x.size - 1) * (y.size - 1)
  else if x.edge e (a / (y.size - 1)) = x.size - 1 ∨ y.edge e (a % (y.size - 1)) = y.size - 1 then (x.size - 1) * (y.size - 1)
  else x.edge e (a / (y.size - 1)) * (y.size - 1) + y.edge e (a % (y.size - 1))
def pairN (x y : NAlg) : NAlg := ⟨(x.size - 1) * (y.size - 1) + 1, pairBest x y, x.el, pairEdge x y⟩
def filtN (x : NAlg) (ev : Nat → Nat) : NAlg := ⟨x.size, x.best, x.el, fun e a => if (ev e).testBit a then x.size - 1 else x.edge e a⟩

def PHead.evN (h : PHead) (i : Nat) : Nat := (h.ev i).toNat

def PlanM.built : PlanM → NAlg
  | .node none _ => ⟨0, fun _ _ => 0, 0, fun _ _ => 0⟩
  | .node (some h) sub => if h.kind = 3 then pairN (sub rfl 0).built (sub rfl 1).built else if h.kind = 4 then filtN (sub rfl 0).built h.evN
    else if h.kind = 2 then wideN h.n.toNat h.en h.evN else hopsN h.n.toNat h.en h.evN

theorem hops_ok {n en : Nat} {ev : Nat → Nat} (h1 : 1 ≤ n) (h2 : n ≤ 22) (he : en ≤ 8) : (hopsN n en ev).Ok where
  lo := by show 3 ≤ n + 2; omega
  hi := by show n + 2 ≤ 24; omega
  el := he
  sel := fun a b => by show min a b = a ∨ min a b = b; omega
  elt := fun e a _ _ => by show min (a + ev e) (n + 1) < n + 2; omega
theorem wide_ok {n en : Nat} {ev : Nat → Nat} (h1 : 1 ≤ n) (h2 : n ≤ 22) (he : en ≤ 8) (hv : ∀ e, e < en → ev e ≤ n) : (wideN n en ev).Ok where
  lo := by show 3 ≤ n + 2; omega
  hi := by show n + 2 ≤ 24; omega
  el := he
  sel := fun a b => by show min a b = a ∨ min a b = b; omega
  elt := fun e a h ha => by
    have := hv e h
    have ha' : a < n + 2 := ha
    show max a (ev e) < n + 2
    omega

theorem pair_place {x q s1 s2 : Nat} (hx : x ≤ s1 - 1) (h1 : 1 ≤ s1) (hq : q < s2) : x * s2 + q < s1 * s2 := by
  have : (x + 1) * s2 ≤ s1 * s2 := Nat.mul_le_mul_right _ (by omega)
  rw [Nat.succ_mul] at this
  omega

theorem pair_ok {x y : NAlg} (hx : x.Ok) (hy : y.Ok) (he : x.el = y.el) (hs : (x.size - 1) * (y.size - 1) + 1 ≤ 24) : (pairN x y).Ok where
  lo := by
    have := hx.lo
    have := hy.lo
    have : 2 * 2 ≤ (x.size - 1) * (y.size - 1) := Nat.mul_le_mul (by omega) (by omega)
    show 3 ≤ (x.size - 1) * (y.size - 1) + 1
    omega
  hi := hs
  el := hx.el
  sel := fun a b => by
    show pairBest x y a b = a ∨ pairBest x y a b = b
    unfold pairBest
    by_cases h1 : a = (x.size - 1) * (y.size - 1)
    · rw [if_pos h1]; exact Or.inr rfl
    · rw [if_neg h1]
      by_cases h2 : b = (x.size - 1) * (y.size - 1)
      · rw [if_pos h2]; exact Or.inl rfl
      · rw [if_neg h2]
        by_cases h3 : a / (y.size - 1) = b / (y.size - 1)
        · rw [if_pos h3]
          rcases hy.sel (a % (y.size - 1)) (b % (y.size - 1)) with e | e
          · left; rw [e]; exact Nat.div_add_mod' a _
          · right; rw [e, h3]; exact Nat.div_add_mod' b _
        · rw [if_neg h3]
          by_cases h4 : x.best (a / (y.size - 1)) (b / (y.size - 1)) = a / (y.size - 1)
          · rw [if_pos h4]; exact Or.inl rfl
          · rw [if_neg h4]; exact Or.inr rfl
  elt := fun e a h ha => by
    have l1 := hx.lo
    have l2 := hy.lo
    show pairEdge x y e a < (x.size - 1) * (y.size - 1) + 1
    have ha' : a < (x.size - 1) * (y.size - 1) + 1 := ha
    unfold pairEdge
    by_cases h1 : a = (x.size - 1) * (y.size - 1)
    · rw [if_pos h1]; omega
    · rw [if_neg h1]
      have hq : a / (y.size - 1) < x.size - 1 := by rw [Nat.div_lt_iff_lt_mul (by omega)]; omega
      have hr : a % (y.size - 1) < y.size - 1 := Nat.mod_lt _ (by omega)
      have e1 := hx.elt e _ h (show a / (y.size - 1) < x.size by omega)
      have e2 := hy.elt e _ (by rw [← he]; exact h) (show a % (y.size - 1) < y.size by omega)
      split
      · omega
      · rename_i hn
        have n1 : x.edge e (a / (y.size - 1)) ≠ x.size - 1 := fun hh => hn (Or.inl hh)
        have n2 : y.edge e (a % (y.size - 1)) ≠ y.size - 1 := fun hh => hn (Or.inr hh)
        have := pair_place (x := x.edge e (a / (y.size - 1))) (q := y.edge e (a % (y.size - 1))) (s1 := x.size - 1) (s2 := y.size - 1) (by omega) (by omega) (by omega)
        omega

theorem filt_ok {x : NAlg} {ev : Nat → Nat} (hx : x.Ok) : (filtN x ev).Ok where
  lo := hx.lo
  hi := hx.hi
  el := hx.el
  sel := hx.sel
  elt := fun e a h ha => by
    show (if (ev e).testBit a then x.size - 1 else x.edge e a) < x.size
    have := hx.lo
    split
    · omega
    · exact hx.elt e a h ha

/-- What a right plan is, kind by kind. -/
structure RightNum (h : PHead) : Prop where
  k : h.kind = 1 ∨ h.kind = 2
  pn : h.pn = 0
  n1 : 1 ≤ h.n
  n2 : h.n ≤ 22
  ev : ∀ i, i < h.en → 1 ≤ h.ev i ∧ h.ev i ≤ h.n
structure RightPair (h : PHead) (sub : Nat → PlanM) : Prop where
  k : h.kind = 3
  pn : h.pn = 2
  n0 : h.n = 0
  en : h.en = 0
  e0 : (sub 0).err = 0
  e1 : (sub 1).err = 0
  g : (sub 0).edges = (sub 1).edges
  s : ((sub 0).size - 1) * ((sub 1).size - 1) + 1 ≤ 24
structure RightFilt (h : PHead) (sub : Nat → PlanM) : Prop where
  k : h.kind = 4
  pn : h.pn = 1
  n0 : h.n = 0
  e0 : (sub 0).err = 0
  en : h.en = (sub 0).edges
  ev : ∀ i, i < h.en → 0 ≤ h.ev i ∧ h.ev i ≤ 2 ^ (sub 0).size - 1
def Right (h : PHead) (sub : Nat → PlanM) : Prop := RightNum h ∨ RightPair h sub ∨ RightFilt h sub

theorem right_of {h : PHead} {sub : Nat → PlanM} (he : (PlanM.mk h sub).err = 0) : Right h sub := by
  rw [err_mk] at he
  by_cases hf : firstErr (fun i => (sub i).err) h.pn = 0
  · rw [if_pos hf] at he
    have hs := firstErr_zero.1 hf
    unfold headErr at he
    by_cases h12 : h.kind = 1 ∨ h.kind = 2
    · rw [if_pos h12] at he
      unfold numErr at he
      split at he
      · cases he
      · rename_i hp
        split at he
        · cases he
        · rename_i hx
          have a1 : ¬ h.n < 1 := fun hh => hx (Or.inl hh)
          have a2 : ¬ 22 < h.n := fun hh => hx (Or.inr (Or.inl hh))
          have a3 : within h.ev h.en 1 h.n = true := by
            cases hw : within h.ev h.en 1 h.n with
            | true => rfl
            | false => exact absurd (Or.inr (Or.inr hw)) hx
          exact Or.inl <| .mk h12 (by omega) (by omega) (by omega) (within_iff.1 a3)
    · rw [if_neg h12] at he
      by_cases h3 : h.kind = 3
      · rw [if_pos h3] at he
        unfold pairErr at he
        split at he
        · cases he
        · split at he
          · cases he
          · split at he
            · cases he
            · split at he
              · cases he
              · split at he
                · cases he
                · rename_i q1 q2 q3 q4 q5
                  exact Or.inr <| Or.inl <| .mk h3 (by omega) (by omega) (by omega) (hs 0 (by omega)) (hs 1 (by omega)) (by simpa using q4) (by simpa using q5)
      · rw [if_neg h3] at he
        by_cases h4 : h.kind = 4
        · rw [if_pos h4] at he
          unfold filtErr at he
          split at he
          · cases he
          · split at he
            · cases he
            · split at he
              · cases he
              · split at he
                · cases he
                · rename_i q1 q2 q3 q4
                  exact Or.inr <| Or.inr <| .mk h4 (by omega) (by omega) (hs 0 (by omega)) (by simpa using q3) (within_iff.1 (by simpa using q4))
        · rw [if_neg h4] at he
          cases he
  · rw [if_neg hf] at he
    exact absurd he hf

theorem wide_sub {h : PHead} {sub : Nat → PlanM} (hw : (PlanM.mk h sub).wide = false) : h.en ≤ 8 ∧ ∀ i, i < h.pn → (sub i).wide = false := by
  simp only [PlanM.wide, Bool.or_eq_false_iff, List.any_eq_false, List.mem_range, decide_eq_false_iff_not] at hw
  exact ⟨by omega, fun i hi => by simpa using hw.2 i hi⟩

/-- A right plan's algebra is as it was measured, and of the kind. -/
theorem built_ok {p : PlanM} (he : p.err = 0) (hw : p.wide = false) : p.built.Ok ∧ p.built.size = p.size ∧ p.built.el = p.edges := by
  induction p using PlanM.ind with
  | no => exact absurd hw (by simp [PlanM.wide])
  | mk h sub ih =>
    obtain ⟨hen, hsw⟩ := wide_sub hw
    simp only [PlanM.built, PlanM.size, PlanM.edges]
    rcases right_of he with ⟨k, pn, n1, n2, ev⟩ | hrest
    · skip
      have k3 : ¬ h.kind = 3 := by omega
      have k4 : ¬ h.kind = 4 := by omega
      simp only [if_neg k3, if_neg k4]
      by_cases k2 : h.kind = 2
      · rw [if_pos k2]
        exact ⟨wide_ok (by omega) (by omega) hen (fun e hi => by have := ev e hi; unfold PHead.evN; omega), rfl, rfl⟩
      · rw [if_neg k2]
        exact ⟨hops_ok (by omega) (by omega) hen, rfl, rfl⟩
    rcases hrest with ⟨k, pn, n0, en, e0, e1, g, s⟩ | hrest
    · skip
      obtain ⟨a0, s0, g0⟩ := ih 0 e0 (hsw 0 (by omega))
      obtain ⟨a1, s1, g1⟩ := ih 1 e1 (hsw 1 (by omega))
      simp only [if_pos k]
      refine ⟨pair_ok a0 a1 (by rw [g0, g1, g]) (by rw [s0, s1]; exact s), ?_, g0⟩
      show ((sub 0).built.size - 1) * ((sub 1).built.size - 1) + 1 = _
      rw [s0, s1]
    obtain ⟨k, pn, n0, e0, en, ev⟩ := hrest
    · skip
      obtain ⟨a0, s0, g0⟩ := ih 0 e0 (hsw 0 (by omega))
      have k3 : ¬ h.kind = 3 := by omega
      simp only [if_neg k3, if_pos k]
      exact ⟨filt_ok a0, s0, g0⟩

end Go.Proofs.Ytjhkadffaephmaa
