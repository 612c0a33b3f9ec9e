/-
  Our own texts, bundled: a claim holds few files.
-/
import Derived.Test.YtjhkadffaephmabBundleAE
import Derived.Test.YtjhkadffaephmabBundleAH
import Derived.Test.YtjhkadffaephmabBundleAA
import Derived.SizedLaws
/-
  Plans: how they lie in memory, and plan.tooMany.
-/
namespace Go.Proofs.Ytjhkadffaephmab
open Go.RowKit

/-- A plan's own four fields, and where its lists lie. -/
structure PHead where
  kind : Int
  n : Int
  eg : Option Addr
  en : Nat
  ec : Nat
  eb : Nat
  eo : Nat
  ev : Nat → Int
  pg : Option Addr
  pn : Nat
  pc : Nat
  pb : Nat
  po : Nat

/-- A plan, with its parts (behind the last of them there is none). -/
structure PlanM where
  node ::
  body : Option PHead
  kids : body.isSome = true → Nat → PlanM

abbrev PlanM.no : PlanM := .node none (fun e => absurd e (by decide))
abbrev PlanM.mk (h : PHead) (sub : Nat → PlanM) : PlanM := .node (some h) (fun _ => sub)

theorem PlanM.ind {M : PlanM → Prop} (no : M .no) (mk : ∀ (h : PHead) (sub : Nat → PlanM), (∀ i, M (sub i)) → M (.mk h sub)) (p : PlanM) : M p := by
  induction p with
  | node body kids ih =>
    cases body with
    | none =>
      have e : kids = fun e => absurd e (by decide) := by funext e; exact absurd e (by decide)
      rw [e]
      exact no
    | some h => exact mk h (kids rfl) (fun i => ih rfl i)

def PlanM.head : PlanM → PHead
  | .node none _ => ⟨0, 0, none, 0, 0, 0, 0, fun _ => 0, none, 0, 0, 0, 0⟩
  | .node (some h) _ => h
def PlanM.sub : PlanM → Nat → PlanM
  | .node none _ => fun _ => .no
  | .node (some _) s => s rfl

theorem head_mk (h : PHead) (sub : Nat → PlanM) : (PlanM.mk h sub).head = h := rfl
def PHead.evs (h : PHead) : Value := .slice h.eg h.en h.ec
def PHead.pvs (h : PHead) : Value := .slice h.pg h.pn h.pc
def PHead.cells (h : PHead) : Array Value := #[.int .i64 h.kind, .int .i64 h.n, .slice h.eg h.en h.ec, .slice h.pg h.pn h.pc]
def PHead.val (h : PHead) : Value := .agg h.cells

structure PHead.In (h : PHead) (N : Nat) (w : World) : Prop where
  wk : (Lit.int .i64 h.kind).wf = true
  wn : (Lit.int .i64 h.n).wf = true
  ea : 0 < h.en → h.eg = some ⟨h.eb, h.eo, none⟩
  el : 0 < h.en → h.eb < N
  ecell : ∀ i, i < h.en → w.cell? ⟨h.eb, h.eo + i, none⟩ = some (.int .i64 (h.ev i))
  elen : h.en ≤ maxLen
  pa : 0 < h.pn → h.pg = some ⟨h.pb, h.po, none⟩
  pl : 0 < h.pn → h.pb < N
  plen : h.pn * 64 ≤ 140737488355328

/-- The cells of a part. -/
structure PHead.At (h : PHead) (b o : Nat) (w : World) : Prop where
  c0 : w.cell? ⟨b, o, none⟩ = some (.int .i64 h.kind)
  c1 : w.cell? ⟨b, o + 1, none⟩ = some (.int .i64 h.n)
  c2 : w.cell? ⟨b, o + 2, none⟩ = some (.slice h.eg h.en h.ec)
  c3 : w.cell? ⟨b, o + 3, none⟩ = some (.slice h.pg h.pn h.pc)

/-- It lies in the blocks below N. -/
def PlanM.In (N : Nat) (w : World) : PlanM → Prop
  | .node none _ => False
  | .node (some h) sub => h.In N w ∧ ∀ i, i < h.pn → (sub rfl i).head.At h.pb (h.po + i * 4) w ∧ (sub rfl i).In N w

theorem PHead.In.below {h : PHead} {N k : Nat} {w w' : World} (hi : h.In N w) (hb : Below k w w') (hk : N ≤ k) : h.In N w' where
  wk := hi.wk
  wn := hi.wn
  ea := hi.ea
  el := hi.el
  ecell := fun i h0 => by rw [hb.cell (p := ⟨h.eb, h.eo + i, none⟩) (Nat.lt_of_lt_of_le (hi.el (by omega)) hk)]; exact hi.ecell i h0
  elen := hi.elen
  pa := hi.pa
  pl := hi.pl
  plen := hi.plen

theorem PHead.In.mono {h : PHead} {N k : Nat} {w : World} (hi : h.In N w) (hk : N ≤ k) : h.In k w where
  wk := hi.wk
  wn := hi.wn
  ea := hi.ea
  el := fun h0 => Nat.lt_of_lt_of_le (hi.el h0) hk
  ecell := hi.ecell
  elen := hi.elen
  pa := hi.pa
  pl := fun h0 => Nat.lt_of_lt_of_le (hi.pl h0) hk
  plen := hi.plen

theorem PHead.At.below {h : PHead} {b o k : Nat} {w w' : World} (hi : h.At b o w) (hb : Below k w w') (hk : b < k) : h.At b o w' where
  c0 := (hb.cell (p := ⟨b, o, none⟩) hk).trans hi.c0
  c1 := (hb.cell (p := ⟨b, o + 1, none⟩) hk).trans hi.c1
  c2 := (hb.cell (p := ⟨b, o + 2, none⟩) hk).trans hi.c2
  c3 := (hb.cell (p := ⟨b, o + 3, none⟩) hk).trans hi.c3

theorem PlanM.In.below {p : PlanM} {N k : Nat} {w w' : World} (hi : p.In N w) (hb : Below k w w') (hk : N ≤ k) : p.In N w' := by
  induction p using PlanM.ind with
  | no => exact False.elim hi
  | mk h sub ih =>
    refine ⟨hi.1.below hb hk, fun i h0 => ⟨(hi.2 i h0).1.below hb (Nat.lt_of_lt_of_le (hi.1.pl (by omega)) hk), ih i (hi.2 i h0).2⟩⟩

theorem PlanM.In.mono {p : PlanM} {N k : Nat} {w : World} (hi : p.In N w) (hk : N ≤ k) : p.In k w := by
  induction p using PlanM.ind with
  | no => exact False.elim hi
  | mk h sub ih => exact ⟨hi.1.mono hk, fun i h0 => ⟨(hi.2 i h0).1, ih i (hi.2 i h0).2⟩⟩

theorem PlanM.In.grown {p : PlanM} {w w' : World} (hi : p.In w.heap.size w) (hb : Below w.heap.size w w') : p.In w'.heap.size w' :=
  (hi.below hb (Nat.le_refl _)).mono hb.size

/-- Are all numbers from l to m? -/
def within (ev : Nat → Int) (n : Nat) (l m : Int) : Bool := (List.range n).all fun i => decide (l ≤ ev i) && decide (ev i ≤ m)
theorem within_iff {ev : Nat → Int} {n : Nat} {l m : Int} : within ev n l m = true ↔ ∀ i, i < n → l ≤ ev i ∧ ev i ≤ m := by
  simp [within]
theorem within_false {ev : Nat → Int} {n : Nat} {l m : Int} {i : Nat} (h : i < n) (hn : ev i < l ∨ m < ev i) : within ev n l m = false := by
  rw [Bool.eq_false_iff]; intro hw; have := within_iff.1 hw i h; omega

/-- More than d plans within each other, or more than eight edges of one. -/
def PlanM.many : PlanM → Nat → Bool
  | .node none _, _ => true
  | .node (some _) _, 0 => true
  | .node (some h) sub, d + 1 => decide (8 < h.en) || (List.range h.pn).any fun i => (sub rfl i).many d

theorem many_at {h : PHead} {sub : Nat → PlanM} {d i : Nat} (hi : i < h.pn) (hm : (sub i).many d = true) : (PlanM.mk h sub).many (d + 1) = true := by
  simp only [PlanM.many, Bool.or_eq_true, List.any_eq_true, List.mem_range]
  exact Or.inr ⟨i, hi, hm⟩
theorem many_none {h : PHead} {sub : Nat → PlanM} {d : Nat} (he : h.en ≤ 8) (hm : ∀ i, i < h.pn → (sub i).many d = false) : (PlanM.mk h sub).many (d + 1) = false := by
  simp only [PlanM.many, Bool.or_eq_false_iff, List.any_eq_false, List.mem_range, decide_eq_false_iff_not]
  exact ⟨by omega, fun i hi => by simp [hm i hi]⟩

end Go.Proofs.Ytjhkadffaephmab

/-
  signpostref.DeepOf and WideOf; how they make plan.tooMany's answer.
-/
namespace Go.Proofs.Ytjhkadffaephmab
open Go.RowKit

/-- Are there more than d plans within each other? -/
def PlanM.deep : PlanM → Nat → Bool
  | .node none _, _ => true
  | .node (some _) _, 0 => true
  | .node (some h) sub, d + 1 => (List.range h.pn).any fun i => (sub rfl i).deep d
/-- Has one more than eight edges? -/
def PlanM.wide : PlanM → Bool
  | .node none _ => true
  | .node (some h) sub => decide (8 < h.en) || (List.range h.pn).any fun i => (sub rfl i).wide

theorem many_eq (p : PlanM) : ∀ d, p.many d = (p.deep d || p.wide) := by
  induction p using PlanM.ind with
  | no => exact fun d => by simp [PlanM.many, PlanM.deep]
  | mk h sub ih =>
    intro d
    cases d with
    | zero => simp [PlanM.many, PlanM.deep]
    | succ d =>
      simp only [PlanM.many, PlanM.deep, PlanM.wide, ih]
      rw [Bool.eq_iff_iff]
      simp only [Bool.or_eq_true, List.any_eq_true, List.mem_range, decide_eq_true_eq]
      constructor
      · rintro (h8 | ⟨i, hi, h1 | h1⟩)
        · exact Or.inr (Or.inl h8)
        · exact Or.inl ⟨i, hi, h1⟩
        · exact Or.inr (Or.inr ⟨i, hi, h1⟩)
      · rintro (⟨i, hi, h1⟩ | h8 | ⟨i, hi, h1⟩)
        · exact Or.inr ⟨i, hi, Or.inl h1⟩
        · exact Or.inl h8
        · exact Or.inr ⟨i, hi, Or.inr h1⟩

theorem wide_at {h : PHead} {sub : Nat → PlanM} {i : Nat} (hi : i < h.pn) (hm : (sub i).wide = true) : (PlanM.mk h sub).wide = true := by
  simp only [PlanM.wide, Bool.or_eq_true, List.any_eq_true, List.mem_range]
  exact Or.inr ⟨i, hi, hm⟩
theorem wide_none {h : PHead} {sub : Nat → PlanM} (he : h.en ≤ 8) (hm : ∀ i, i < h.pn → (sub i).wide = false) : (PlanM.mk h sub).wide = false := by
  simp only [PlanM.wide, Bool.or_eq_false_iff, List.any_eq_false, List.mem_range, decide_eq_false_iff_not]
  exact ⟨by omega, fun i hi => by simp [hm i hi]⟩

theorem deep_zero (p : PlanM) : p.deep 0 = true := by
  induction p using PlanM.ind with
  | no => rfl
  | mk h sub _ => rfl
theorem deep_succ {h : PHead} {sub : Nat → PlanM} {d : Nat} : (PlanM.mk h sub).deep (d + 1) = true ↔ ∃ i, i < h.pn ∧ (sub i).deep d = true := by
  simp only [PlanM.deep, List.any_eq_true, List.mem_range]

end Go.Proofs.Ytjhkadffaephmab

/-
  plan.measure: its parts, by what a plan is.
-/
namespace Go.Proofs.Ytjhkadffaephmab
open Go.RowKit

/-- The first of n numbers that is not 0. -/
def firstErr (f : Nat → Int) : Nat → Int
  | 0 => 0
  | n + 1 => if firstErr f n = 0 then f n else firstErr f n
theorem firstErr_zero {f : Nat → Int} {n : Nat} : firstErr f n = 0 ↔ ∀ i, i < n → f i = 0 := by
  induction n with
  | zero => simp [firstErr]
  | succ n ih =>
    simp only [firstErr]
    by_cases h : firstErr f n = 0
    · rw [if_pos h]
      constructor
      · intro h0 i hi
        by_cases e : i = n
        · subst e; exact h0
        · exact ih.1 h i (by omega)
      · intro h0; exact h0 n (by omega)
    · rw [if_neg h]
      constructor
      · intro h0; exact absurd h0 h
      · intro h0; exact absurd (ih.2 (fun i hi => h0 i (by omega))) h
theorem firstErr_at {f : Nat → Int} {n k : Nat} (hk : k < n) (h0 : ∀ i, i < k → f i = 0) (h : f k ≠ 0) : firstErr f n = f k := by
  induction n with
  | zero => omega
  | succ n ih =>
    simp only [firstErr]
    by_cases e : k = n
    · subst e; rw [if_pos (firstErr_zero.2 h0)]
    · rw [ih (by omega), if_neg h]

/-- How many routes the algebra of a plan has, and how many edges. -/
def PlanM.size : PlanM → Nat
  | .node none _ => 0
  | .node (some h) sub => if h.kind = 3 then ((sub rfl 0).size - 1) * ((sub rfl 1).size - 1) + 1 else if h.kind = 4 then (sub rfl 0).size else h.n.toNat + 2
def PlanM.edges : PlanM → Nat
  | .node none _ => 0
  | .node (some h) sub => if h.kind = 3 then (sub rfl 0).edges else if h.kind = 4 then (sub rfl 0).edges else h.en

/-- What is wrong with a plan whose parts are right: s, g: how many routes and edges they have. -/
def numErr (h : PHead) : Int := if h.pn ≠ 0 then 1 else if h.n < 1 ∨ 22 < h.n ∨ within h.ev h.en 1 h.n = false then 3 else 0
def pairErr (h : PHead) (s g : Nat → Nat) : Int :=
  if h.pn ≠ 2 then 1 else if h.n ≠ 0 then 3 else if h.en ≠ 0 then 1 else if g 0 ≠ g 1 then 4 else if 24 < (s 0 - 1) * (s 1 - 1) + 1 then 2 else 0
def filtErr (h : PHead) (s g : Nat → Nat) : Int :=
  if h.pn ≠ 1 then 1 else if h.n ≠ 0 then 3 else if h.en ≠ g 0 then 4 else if within h.ev h.en 0 (2 ^ s 0 - 1) = false then 3 else 0
def headErr (h : PHead) (s g : Nat → Nat) : Int :=
  if h.kind = 1 ∨ h.kind = 2 then numErr h else if h.kind = 3 then pairErr h s g else if h.kind = 4 then filtErr h s g else 7

def PlanM.err : PlanM → Int
  | .node none _ => 1
  | .node (some h) sub => if firstErr (fun i => (sub rfl i).err) h.pn = 0 then headErr h (fun i => (sub rfl i).size) (fun i => (sub rfl i).edges) else firstErr (fun i => (sub rfl i).err) h.pn

theorem err_mk (h : PHead) (sub : Nat → PlanM) : (PlanM.mk h sub).err = if firstErr (fun i => (sub i).err) h.pn = 0 then headErr h (fun i => (sub i).size) (fun i => (sub i).edges) else firstErr (fun i => (sub i).err) h.pn := rfl

/-- What a right plan's size is. -/
theorem size_range {p : PlanM} (h : p.err = 0) : 3 ≤ p.size ∧ p.size ≤ 24 := by
  induction p using PlanM.ind with
  | no => cases h
  | mk h0 sub ih =>
    rw [err_mk] at h
    by_cases hf : firstErr (fun i => (sub i).err) h0.pn = 0
    · rw [if_pos hf] at h
      have hs := firstErr_zero.1 hf
      unfold headErr at h
      simp only [PlanM.size]
      by_cases h12 : h0.kind = 1 ∨ h0.kind = 2
      · rw [if_pos h12] at h
        rw [if_neg (by omega), if_neg (by omega)]
        unfold numErr at h
        split at h
        · cases h
        · split at h
          · cases h
          · rename_i hx
            have : ¬ h0.n < 1 := fun hh => hx (Or.inl hh)
            have : ¬ 22 < h0.n := fun hh => hx (Or.inr (Or.inl hh))
            omega
      · rw [if_neg h12] at h
        by_cases h3 : h0.kind = 3
        · rw [if_pos h3] at h ⊢
          unfold pairErr at h
          split at h
          · cases h
          · rename_i hpn
            have e0 := ih 0 (hs 0 (by omega))
            have e1 := ih 1 (hs 1 (by omega))
            (repeat' split at h) <;> try (cases h)
            rename_i hsz
            simp only at hsz
            have : 2 * 2 ≤ ((sub 0).size - 1) * ((sub 1).size - 1) := Nat.mul_le_mul (by omega) (by omega)
            omega
        · rw [if_neg h3] at h ⊢
          by_cases h4 : h0.kind = 4
          · rw [if_pos h4] at h ⊢
            unfold filtErr at h
            split at h
            · cases h
            · exact ih 0 (hs 0 (by omega))
          · rw [if_neg h4] at h
            cases h
    · rw [if_neg hf] at h
      exact absurd h hf

/-- A list of shapes in memory. -/
structure Shapes (ga : Option Addr) (n gb : Nat) (s g : Nat → Nat) (w : World) : Prop where
  addr : 0 < n → ga = some ⟨gb, 0, none⟩
  lt : 0 < n → gb < w.heap.size
  c0 : ∀ i, i < n → w.cell? ⟨gb, i * 2, none⟩ = some (.int .i64 (s i))
  c1 : ∀ i, i < n → w.cell? ⟨gb, i * 2 + 1, none⟩ = some (.int .i64 (g i))

theorem Shapes.below {ga : Option Addr} {n gb : Nat} {s g : Nat → Nat} {w w' : World} (h : Shapes ga n gb s g w) (hb : Below w.heap.size w w') : Shapes ga n gb s g w' where
  addr := h.addr
  lt := fun h0 => Nat.lt_of_lt_of_le (h.lt h0) hb.size
  c0 := fun i hi => (hb.cell (p := ⟨gb, i * 2, none⟩) (h.lt (by omega))).trans (h.c0 i hi)
  c1 := fun i hi => (hb.cell (p := ⟨gb, i * 2 + 1, none⟩) (h.lt (by omega))).trans (h.c1 i hi)

/-- What a call of the measuring kind returns: a shape, and what is wrong. -/
def Measured (x : Int) (S G : Nat) (e : Ending) : Prop :=
  ∃ s g : Nat, e = .returned (.tuple #[.agg #[.int .i64 s, .int .i64 g], .int .i64 x]) ∧ (x = 0 → s = S ∧ g = G)

theorem measured_err {x : Int} {S G : Nat} (h : x ≠ 0) : Measured x S G (.returned (.tuple #[.agg #[.int .i64 0, .int .i64 0], .int .i64 x])) := ⟨0, 0, rfl, fun e => absurd e h⟩

end Go.Proofs.Ytjhkadffaephmab

/-
  The algebras that plans mean: plain mathematics.
-/
namespace Go.Proofs.Ytjhkadffaephmab

/-- An algebra of numbers. -/
structure NAlg where
  size : Nat
  best : Nat → Nat → Nat
  el : Nat
  edge : Nat → Nat → Nat

def NAlg.B (x : NAlg) : Tab := ⟨x.size, fun _ => x.size, fun r c => (x.best r c : Int)⟩
def NAlg.E (x : NAlg) : Tab := ⟨x.el, fun _ => x.size, fun e a => (x.edge e a : Int)⟩
def NAlg.alg (x : NAlg) : Alg := ⟨x.size, x.B, x.E⟩

/-- What is built is of this kind. -/
structure NAlg.Ok (x : NAlg) : Prop where
  lo : 3 ≤ x.size
  hi : x.size ≤ 24
  el : x.el ≤ 8
  sel : ∀ a b, x.best a b = a ∨ x.best a b = b
  elt : ∀ e a, e < x.el → a < x.size → x.edge e a < x.size

theorem NAlg.Ok.blt {x : NAlg} (h : x.Ok) {a b n : Nat} (ha : a < n) (hb : b < n) : x.best a b < n := by
  rcases h.sel a b with e | e <;> rw [e] <;> assumption

theorem NAlg.Ok.good {x : NAlg} (h : x.Ok) : x.alg.Good where
  lo := by have := h.lo; show (2 : Int) ≤ (x.size : Int); omega
  hi := by have := h.hi; show (x.size : Int) ≤ 24; omega
  el := h.el
  bl := rfl
  bw := fun _ _ => rfl
  ew := fun _ _ => rfl
  bz := fun r hr c hc => by
    have := h.blt (n := x.size) hr hc
    show (0 : Int) ≤ (x.best r c : Int) ∧ (x.best r c : Int) < (x.size : Int)
    omega
  ez := fun r hr c hc => by
    have := h.elt r c hr hc
    show (0 : Int) ≤ (x.edge r c : Int) ∧ (x.edge r c : Int) < (x.size : Int)
    omega

def hopsN (n : Nat) (en : Nat) (ev : Nat → Nat) : NAlg := ⟨n + 2, fun a b => min a b, en, fun e a => min (a + ev e) (n + 1)⟩
def wideN (n : Nat) (en : Nat) (ev : Nat → Nat) : NAlg := ⟨n + 2, fun a b => min a b, en, fun e a => max a (ev e)⟩
def pairBest (x y : NAlg) (a b : Nat) : Nat :=
  if a = (x.size - 1) * (y.size - 1) then b else if b = (x.size - 1) * (y.size - 1) then a
  else if a / (y.size - 1) = b / (y.size - 1) then a / (y.size - 1) * (y.size - 1) + y.best (a % (y.size - 1)) (b % (y.size - 1))
  else if x.best (a / (y.size - 1)) (b / (y.size - 1)) = a / (y.size - 1) then a else b
def pairEdge (x y : NAlg) (e a : Nat) : Nat :=
  if a = (x.size - 1) * (y.size - 1) then (x.size - 1) * (y.size - 1)
  else if x.edge e (a / (y.size - 1)) = x.size - 1 ∨ y.edge e (a % (y.size - 1)) = y.size - 1 then (x.size - 1) * (y.size - 1)
  else x.edge e (a / (y.size - 1)) * (y.size - 1) + y.edge e (a % (y.size - 1))
def pairN (x y : NAlg) : NAlg := ⟨(x.size - 1) * (y.size - 1) + 1, pairBest x y, x.el, pairEdge x y⟩
def filtN (x : NAlg) (ev : Nat → Nat) : NAlg := ⟨x.size, x.best, x.el, fun e a => if (ev e).testBit a then x.size - 1 else x.edge e a⟩

def PHead.evN (h : PHead) (i : Nat) : Nat := (h.ev i).toNat

def PlanM.built : PlanM → NAlg
  | .node none _ => ⟨0, fun _ _ => 0, 0, fun _ _ => 0⟩
  | .node (some h) sub => if h.kind = 3 then pairN (sub rfl 0).built (sub rfl 1).built else if h.kind = 4 then filtN (sub rfl 0).built h.evN
    else if h.kind = 2 then wideN h.n.toNat h.en h.evN else hopsN h.n.toNat h.en h.evN

theorem hops_ok {n en : Nat} {ev : Nat → Nat} (h1 : 1 ≤ n) (h2 : n ≤ 22) (he : en ≤ 8) : (hopsN n en ev).Ok where
  lo := by show 3 ≤ n + 2; omega
  hi := by show n + 2 ≤ 24; omega
  el := he
  sel := fun a b => by show min a b = a ∨ min a b = b; omega
  elt := fun e a _ _ => by show min (a + ev e) (n + 1) < n + 2; omega
theorem wide_ok {n en : Nat} {ev : Nat → Nat} (h1 : 1 ≤ n) (h2 : n ≤ 22) (he : en ≤ 8) (hv : ∀ e, e < en → ev e ≤ n) : (wideN n en ev).Ok where
  lo := by show 3 ≤ n + 2; omega
  hi := by show n + 2 ≤ 24; omega
  el := he
  sel := fun a b => by show min a b = a ∨ min a b = b; omega
  elt := fun e a h ha => by
    have := hv e h
    have ha' : a < n + 2 := ha
    show max a (ev e) < n + 2
    omega

theorem pair_place {x q s1 s2 : Nat} (hx : x ≤ s1 - 1) (h1 : 1 ≤ s1) (hq : q < s2) : x * s2 + q < s1 * s2 := by
  have : (x + 1) * s2 ≤ s1 * s2 := Nat.mul_le_mul_right _ (by omega)
  rw [Nat.succ_mul] at this
  omega

theorem pair_ok {x y : NAlg} (hx : x.Ok) (hy : y.Ok) (he : x.el = y.el) (hs : (x.size - 1) * (y.size - 1) + 1 ≤ 24) : (pairN x y).Ok where
  lo := by
    have := hx.lo
    have := hy.lo
    have : 2 * 2 ≤ (x.size - 1) * (y.size - 1) := Nat.mul_le_mul (by omega) (by omega)
    show 3 ≤ (x.size - 1) * (y.size - 1) + 1
    omega
  hi := hs
  el := hx.el
  sel := fun a b => by
    show pairBest x y a b = a ∨ pairBest x y a b = b
    unfold pairBest
    by_cases h1 : a = (x.size - 1) * (y.size - 1)
    · rw [if_pos h1]; exact Or.inr rfl
    · rw [if_neg h1]
      by_cases h2 : b = (x.size - 1) * (y.size - 1)
      · rw [if_pos h2]; exact Or.inl rfl
      · rw [if_neg h2]
        by_cases h3 : a / (y.size - 1) = b / (y.size - 1)
        · rw [if_pos h3]
          rcases hy.sel (a % (y.size - 1)) (b % (y.size - 1)) with e | e
          · left; rw [e]; exact Nat.div_add_mod' a _
          · right; rw [e, h3]; exact Nat.div_add_mod' b _
        · rw [if_neg h3]
          by_cases h4 : x.best (a / (y.size - 1)) (b / (y.size - 1)) = a / (y.size - 1)
          · rw [if_pos h4]; exact Or.inl rfl
          · rw [if_neg h4]; exact Or.inr rfl
  elt := fun e a h ha => by
    have l1 := hx.lo
    have l2 := hy.lo
    show pairEdge x y e a < (x.size - 1) * (y.size - 1) + 1
    have ha' : a < (x.size - 1) * (y.size - 1) + 1 := ha
    unfold pairEdge
    by_cases h1 : a = (x.size - 1) * (y.size - 1)
    · rw [if_pos h1]; omega
    · rw [if_neg h1]
      have hq : a / (y.size - 1) < x.size - 1 := by rw [Nat.div_lt_iff_lt_mul (by omega)]; omega
      have hr : a % (y.size - 1) < y.size - 1 := Nat.mod_lt _ (by omega)
      have e1 := hx.elt e _ h (show a / (y.size - 1) < x.size by omega)
      have e2 := hy.elt e _ (by rw [← he]; exact h) (show a % (y.size - 1) < y.size by omega)
      split
      · omega
      · rename_i hn
        have n1 : x.edge e (a / (y.size - 1)) ≠ x.size - 1 := fun hh => hn (Or.inl hh)
        have n2 : y.edge e (a % (y.size - 1)) ≠ y.size - 1 := fun hh => hn (Or.inr hh)
        have := pair_place (x := x.edge e (a / (y.size - 1))) (q := y.edge e (a % (y.size - 1))) (s1 := x.size - 1) (s2 := y.size - 1) (by omega) (by omega) (by omega)
        omega

theorem filt_ok {x : NAlg} {ev : Nat → Nat} (hx : x.Ok) : (filtN x ev).Ok where
  lo := hx.lo
  hi := hx.hi
  el := hx.el
  sel := hx.sel
  elt := fun e a h ha => by
    show (if (ev e).testBit a then x.size - 1 else x.edge e a) < x.size
    have := hx.lo
    split
    · omega
    · exact hx.elt e a h ha

/-- What a right plan is, kind by kind. -/
structure RightNum (h : PHead) : Prop where
  k : h.kind = 1 ∨ h.kind = 2
  pn : h.pn = 0
  n1 : 1 ≤ h.n
  n2 : h.n ≤ 22
  ev : ∀ i, i < h.en → 1 ≤ h.ev i ∧ h.ev i ≤ h.n
structure RightPair (h : PHead) (sub : Nat → PlanM) : Prop where
  k : h.kind = 3
  pn : h.pn = 2
  n0 : h.n = 0
  en : h.en = 0
  e0 : (sub 0).err = 0
  e1 : (sub 1).err = 0
  g : (sub 0).edges = (sub 1).edges
  s : ((sub 0).size - 1) * ((sub 1).size - 1) + 1 ≤ 24
structure RightFilt (h : PHead) (sub : Nat → PlanM) : Prop where
  k : h.kind = 4
  pn : h.pn = 1
  n0 : h.n = 0
  e0 : (sub 0).err = 0
  en : h.en = (sub 0).edges
  ev : ∀ i, i < h.en → 0 ≤ h.ev i ∧ h.ev i ≤ 2 ^ (sub 0).size - 1
def Right (h : PHead) (sub : Nat → PlanM) : Prop := RightNum h ∨ RightPair h sub ∨ RightFilt h sub

theorem right_of {h : PHead} {sub : Nat → PlanM} (he : (PlanM.mk h sub).err = 0) : Right h sub := by
  rw [err_mk] at he
  by_cases hf : firstErr (fun i => (sub i).err) h.pn = 0
  · rw [if_pos hf] at he
    have hs := firstErr_zero.1 hf
    unfold headErr at he
    by_cases h12 : h.kind = 1 ∨ h.kind = 2
    · rw [if_pos h12] at he
      unfold numErr at he
      split at he
      · cases he
      · rename_i hp
        split at he
        · cases he
        · rename_i hx
          have a1 : ¬ h.n < 1 := fun hh => hx (Or.inl hh)
          have a2 : ¬ 22 < h.n := fun hh => hx (Or.inr (Or.inl hh))
          have a3 : within h.ev h.en 1 h.n = true := by
            cases hw : within h.ev h.en 1 h.n with
            | true => rfl
            | false => exact absurd (Or.inr (Or.inr hw)) hx
          exact Or.inl <| .mk h12 (by omega) (by omega) (by omega) (within_iff.1 a3)
    · rw [if_neg h12] at he
      by_cases h3 : h.kind = 3
      · rw [if_pos h3] at he
        unfold pairErr at he
        split at he
        · cases he
        · split at he
          · cases he
          · split at he
            · cases he
            · split at he
              · cases he
              · split at he
                · cases he
                · rename_i q1 q2 q3 q4 q5
                  exact Or.inr <| Or.inl <| .mk h3 (by omega) (by omega) (by omega) (hs 0 (by omega)) (hs 1 (by omega)) (by simpa using q4) (by simpa using q5)
      · rw [if_neg h3] at he
        by_cases h4 : h.kind = 4
        · rw [if_pos h4] at he
          unfold filtErr at he
          split at he
          · cases he
          · split at he
            · cases he
            · split at he
              · cases he
              · split at he
                · cases he
                · rename_i q1 q2 q3 q4
                  exact Or.inr <| Or.inr <| .mk h4 (by omega) (by omega) (hs 0 (by omega)) (by simpa using q3) (within_iff.1 (by simpa using q4))
        · rw [if_neg h4] at he
          cases he
  · rw [if_neg hf] at he
    exact absurd he hf

theorem wide_sub {h : PHead} {sub : Nat → PlanM} (hw : (PlanM.mk h sub).wide = false) : h.en ≤ 8 ∧ ∀ i, i < h.pn → (sub i).wide = false := by
  simp only [PlanM.wide, Bool.or_eq_false_iff, List.any_eq_false, List.mem_range, decide_eq_false_iff_not] at hw
  exact ⟨by omega, fun i hi => by simpa using hw.2 i hi⟩

/-- A right plan's algebra is as it was measured, and of the kind. -/
theorem built_ok {p : PlanM} (he : p.err = 0) (hw : p.wide = false) : p.built.Ok ∧ p.built.size = p.size ∧ p.built.el = p.edges := by
  induction p using PlanM.ind with
  | no => exact absurd hw (by simp [PlanM.wide])
  | mk h sub ih =>
    obtain ⟨hen, hsw⟩ := wide_sub hw
    simp only [PlanM.built, PlanM.size, PlanM.edges]
    rcases right_of he with ⟨k, pn, n1, n2, ev⟩ | hrest
    · skip
      have k3 : ¬ h.kind = 3 := by omega
      have k4 : ¬ h.kind = 4 := by omega
      simp only [if_neg k3, if_neg k4]
      by_cases k2 : h.kind = 2
      · rw [if_pos k2]
        exact ⟨wide_ok (by omega) (by omega) hen (fun e hi => by have := ev e hi; unfold PHead.evN; omega), rfl, rfl⟩
      · rw [if_neg k2]
        exact ⟨hops_ok (by omega) (by omega) hen, rfl, rfl⟩
    rcases hrest with ⟨k, pn, n0, en, e0, e1, g, s⟩ | hrest
    · skip
      obtain ⟨a0, s0, g0⟩ := ih 0 e0 (hsw 0 (by omega))
      obtain ⟨a1, s1, g1⟩ := ih 1 e1 (hsw 1 (by omega))
      simp only [if_pos k]
      refine ⟨pair_ok a0 a1 (by rw [g0, g1, g]) (by rw [s0, s1]; exact s), ?_, g0⟩
      show ((sub 0).built.size - 1) * ((sub 1).built.size - 1) + 1 = _
      rw [s0, s1]
    obtain ⟨k, pn, n0, e0, en, ev⟩ := hrest
    · skip
      obtain ⟨a0, s0, g0⟩ := ih 0 e0 (hsw 0 (by omega))
      have k3 : ¬ h.kind = 3 := by omega
      simp only [if_neg k3, if_pos k]
      exact ⟨filt_ok a0, s0, g0⟩

end Go.Proofs.Ytjhkadffaephmab

/-
  A plan as it came, out of its reading: its parts within it, however deep.
-/
namespace Go.Proofs.Ytjhkadffaephmab
set_option maxRecDepth 100000
open Go.RowKit Go.ChangeShapes Go.WideShapes Go.Joins Go.Deep

theorem weightsAll_mem {H : Type} {P : Program} {e : TypeId} : ∀ {ds : List (DataW H)} {d : DataW H}, d ∈ ds → ∀ n ∈ d.weights P e, n ∈ DataW.weightsAll P e ds
  | [], _, h, _, _ => by cases h
  | d0 :: ds, d, h, n, hn => by
    simp only [DataW.weightsAll, List.mem_append]
    rcases List.mem_cons.1 h with rfl | h
    · exact Or.inl hn
    · exact Or.inr (weightsAll_mem h n hn)

section
variable {H : Type} {enc : TypeId × Value → H} {W : World}

end

end Go.Proofs.Ytjhkadffaephmab
