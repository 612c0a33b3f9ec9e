/-
  Plans: how they lie in memory, and plan.tooMany.
-/
import Derived.Test.YtjhkadffaephmaaBroken
import Derived.Test.YtjhkadffaephmaaHops
namespace Go.Proofs.Ytjhkadffaephmaa
open Go.RowKit

/-- A plan's own four fields, and where its lists lie. -/
structure PHead where
  kind : Int
  n : Int
  eg : Option Addr
  en : Nat
  ec : Nat
  eb : Nat
  eo : Nat
  ev : Nat → Int
  pg : Option Addr
  pn : Nat
  pc : Nat
  pb : Nat
  po : Nat

/-- A plan, with its parts (behind the last of them there is none). -/
structure PlanM where
  node ::
  body : Option PHead
  kids : body.isSome = true → Nat → PlanM

abbrev PlanM.no : PlanM := .node none (fun e => absurd e (by decide))
abbrev PlanM.mk (h : PHead) (sub : Nat → PlanM) : PlanM := .node (some h) (fun _ => sub)

theorem PlanM.ind {M : PlanM → Prop} (no : M .no) (mk : ∀ (h : PHead) (sub : Nat → PlanM), (∀ i, M (sub i)) → M (.mk h sub)) (p : PlanM) : M p := by
  induction p with
  | node body kids ih =>
    cases body with
    | none =>
      have e : kids = fun e => absurd e (by decide) := by funext e; exact absurd e (by decide)
      rw [e]
      exact no
    | some h => exact mk h (kids rfl) (fun i => ih rfl i)

def PlanM.head : PlanM → PHead
  | .node none _ => ⟨0, 0, none, 0, 0, 0, 0, fun _ => 0, none, 0, 0, 0, 0⟩
  | .node (some h) _ => h
def PlanM.sub : PlanM → Nat → PlanM
  | .node none _ => fun _ => .no
  | .node (some _) s => s rfl

theorem head_mk (h : PHead) (sub : Nat → PlanM) : (PlanM.mk h sub).head = h := rfl
def PHead.evs (h : PHead) : Value := .slice h.eg h.en h.ec
def PHead.pvs (h : PHead) : Value := .slice h.pg h.pn h.pc
def PHead.cells (h : PHead) : Array Value := #[.int .i64 h.kind, .int .i64 h.n, .slice h.eg h.en h.ec, .slice h.pg h.pn h.pc]
def PHead.val (h : PHead) : Value := .agg h.cells

structure PHead.In (h : PHead) (N : Nat) (w : World) : Prop where
  wk : (Lit.int .i64 h.kind).wf = true
  wn : (Lit.int .i64 h.n).wf = true
  ea : 0 < h.en → h.eg = some ⟨h.eb, h.eo, none⟩
  el : 0 < h.en → h.eb < N
  ecell : ∀ i, i < h.en → w.cell? ⟨h.eb, h.eo + i, none⟩ = some (.int .i64 (h.ev i))
  elen : h.en ≤ maxLen
  pa : 0 < h.pn → h.pg = some ⟨h.pb, h.po, none⟩
  pl : 0 < h.pn → h.pb < N
  plen : h.pn * 64 ≤ 140737488355328

/-- The cells of a part. -/
structure PHead.At (h : PHead) (b o : Nat) (w : World) : Prop where
  c0 : w.cell? ⟨b, o, none⟩ = some (.int .i64 h.kind)
  c1 : w.cell? ⟨b, o + 1, none⟩ = some (.int .i64 h.n)
  c2 : w.cell? ⟨b, o + 2, none⟩ = some (.slice h.eg h.en h.ec)
  c3 : w.cell? ⟨b, o + 3, none⟩ = some (.slice h.pg h.pn h.pc)

/-- It lies in the blocks below N. -/
def PlanM.In (N : Nat) (w : World) : PlanM → Prop
  | .node none _ => False
  | .node (some h) sub => h.In N w ∧ ∀ i, i < h.pn → (sub rfl i).head.At h.pb (h.po + i * 4) w ∧ (sub rfl i).In N w

theorem PHead.In.below {h : PHead} {N k : Nat} {w w' : World} (hi : h.In N w) (hb : Below k w w') (hk : N ≤ k) : h.In N w' where
  wk := hi.wk
  wn := hi.wn
  ea := hi.ea
  el := hi.el
  ecell := fun i h0 => by rw [hb.cell (p := ⟨h.eb, h.eo + i, none⟩) (Nat.lt_of_lt_of_le (hi.el (by omega)) hk)]; exact hi.ecell i h0
  elen := hi.elen
  pa := hi.pa
  pl := hi.pl
  plen := hi.plen

theorem PHead.In.mono {h : PHead} {N k : Nat} {w : World} (hi : h.In N w) (hk : N ≤ k) : h.In k w where
  wk := hi.wk
  wn := hi.wn
  ea := hi.ea
  el := fun h0 => Nat.lt_of_lt_of_le (hi.el h0) hk
  ecell := hi.ecell
  elen := hi.elen
  pa := hi.pa
  pl := fun h0 => Nat.lt_of_lt_of_le (hi.pl h0) hk
  plen := hi.plen

theorem PHead.At.below {h : PHead} {b o k : Nat} {w w' : World} (hi : h.At b o w) (hb : Below k w w') (hk : b < k) : h.At b o w' where
  c0 := (hb.cell (p := ⟨b, o, none⟩) hk).trans hi.c0
  c1 := (hb.cell (p := ⟨b, o + 1, none⟩) hk).trans hi.c1
  c2 := (hb.cell (p := ⟨b, o + 2, none⟩) hk).trans hi.c2
  c3 := (hb.cell (p := ⟨b, o + 3, none⟩) hk).trans hi.c3

theorem PlanM.In.below {p : PlanM} {N k : Nat} {w w' : World} (hi : p.In N w) (hb : Below k w w') (hk : N ≤ k) : p.In N w' := by
  induction p using PlanM.ind with
  | no => exact False.elim hi
  | mk h sub ih =>
    refine ⟨hi.1.below hb hk, fun i h0 => ⟨(hi.2 i h0).1.below hb (Nat.lt_of_lt_of_le (hi.1.pl (by omega)) hk), ih i (hi.2 i h0).2⟩⟩

theorem PlanM.In.mono {p : PlanM} {N k : Nat} {w : World} (hi : p.In N w) (hk : N ≤ k) : p.In k w := by
  induction p using PlanM.ind with
  | no => exact False.elim hi
  | mk h sub ih => exact ⟨hi.1.mono hk, fun i h0 => ⟨(hi.2 i h0).1, ih i (hi.2 i h0).2⟩⟩

theorem PlanM.In.grown {p : PlanM} {w w' : World} (hi : p.In w.heap.size w) (hb : Below w.heap.size w w') : p.In w'.heap.size w' :=
  (hi.below hb (Nat.le_refl _)).mono hb.size

/-- Are all numbers from l to m? -/
def within (ev : Nat → Int) (n : Nat) (l m : Int) : Bool := (List.range n).all fun i => decide (l ≤ ev i) && decide (ev i ≤ m)
theorem within_iff {ev : Nat → Int} {n : Nat} {l m : Int} : within ev n l m = true ↔ ∀ i, i < n → l ≤ ev i ∧ ev i ≤ m := by
  simp [within]
theorem within_false {ev : Nat → Int} {n : Nat} {l m : Int} {i : Nat} (h : i < n) (hn : ev i < l ∨ m < ev i) : within ev n l m = false := by
  rw [Bool.eq_false_iff]; intro hw; have := within_iff.1 hw i h; omega

set_option maxHeartbeats 1000000 in
theorem allWithin_any (p : PHead) (l m : Int) (N : Nat) (w : World) (h : p.In N w) :
    Calls Try.prog 138 #[.slice p.eg p.en p.ec, .int .i64 l, .int .i64 m] w fun e w' => e = .returned (.bool (within p.ev p.en l m)) ∧ w' = w := by
  have hlen := h.elen
  unfold maxLen at hlen
  go_enter Try.func138, Try.ntmps138
  go_wp2
  go_loop [8, 11] (fun _ i => ∃ k : Nat, k ≤ p.en ∧ i = .int .i64 k ∧ Hid (∀ r, r < k → l ≤ p.ev r ∧ p.ev r ≤ m)) (fun _ i => p.en - (intOf i).toNat)
  case atStart => exact ⟨0, Nat.zero_le _, rfl, hide fun r hr => absurd hr (Nat.not_lt_zero _)⟩
  case round =>
    obtain ⟨k, hk, rfl, Hall⟩ := hrel
    by_cases hlt : k < p.en
    · have hea := h.ea (by omega)
      have hcell := h.ecell k hlt
      by_cases h1 : p.ev k < l
      · have Hw := hide (within_false (m := m) hlt (Or.inl h1))
        go_wp2
        go_ret
        exact ⟨by rw [Hw.out]; rfl, rfl⟩
      · by_cases h2 : m < p.ev k
        · have Hw := hide (within_false (l := l) hlt (Or.inr h2))
          go_wp2
          go_ret
          exact ⟨by rw [Hw.out]; rfl, rfl⟩
        · have g1 : l ≤ p.ev k := by omega
          have g2 : p.ev k ≤ m := by omega
          go_wp2
          go_round
          case rel => exact ⟨k + 1, by omega, by go_num, hide fun r hr => by
            by_cases e : r = k
            · subst e; exact ⟨g1, g2⟩
            · exact Hall.out r (by omega)⟩
          case measure => simp [intOf]; omega
    · have Hw : Hid (within p.ev p.en l m = true) := hide (within_iff.2 (fun i hi => Hall.out i (by omega)))
      go_wp2
      go_ret
      exact ⟨by rw [Hw.out]; rfl, rfl⟩

/-- More than d plans within each other, or more than eight edges of one. -/
def PlanM.many : PlanM → Nat → Bool
  | .node none _, _ => true
  | .node (some _) _, 0 => true
  | .node (some h) sub, d + 1 => decide (8 < h.en) || (List.range h.pn).any fun i => (sub rfl i).many d

theorem many_at {h : PHead} {sub : Nat → PlanM} {d i : Nat} (hi : i < h.pn) (hm : (sub i).many d = true) : (PlanM.mk h sub).many (d + 1) = true := by
  simp only [PlanM.many, Bool.or_eq_true, List.any_eq_true, List.mem_range]
  exact Or.inr ⟨i, hi, hm⟩
theorem many_none {h : PHead} {sub : Nat → PlanM} {d : Nat} (he : h.en ≤ 8) (hm : ∀ i, i < h.pn → (sub i).many d = false) : (PlanM.mk h sub).many (d + 1) = false := by
  simp only [PlanM.many, Bool.or_eq_false_iff, List.any_eq_false, List.mem_range, decide_eq_false_iff_not]
  exact ⟨by omega, fun i hi => by simp [hm i hi]⟩

set_option maxHeartbeats 2000000 in
theorem tooMany_any (p : PlanM) : ∀ (d : Nat) (w : World), d ≤ 4 → p.In w.heap.size w →
    Calls Try.prog 69 #[p.head.val, .int .i64 d] w fun e w' => e = .returned (.bool (p.many d)) ∧ Below w.heap.size w w' := by
  induction p using PlanM.ind with
  | no => exact fun _ _ _ h => False.elim h
  | mk h sub ih =>
    intro d w hd hin
    have IH := hide ih
    clear ih
    obtain ⟨hh, hs⟩ := hin
    have hel := hh.elen
    have hpl := hh.plen
    unfold maxLen at hel
    have hb0 : Below w.heap.size w (w.alloc (.cells h.cells 42)) := (Below.refl _ w).alloc (Nat.le_refl _) _
    have b0 := Blk.new w h.cells 42
    simp only [head_mk, PHead.val, PHead.cells] at *
    have c0 := b0.cell 0
    have c1 := b0.cell 1
    have c2 := b0.cell 2
    have c3 := b0.cell 3
    simp at c0 c1 c2 c3
    cases d with
    | zero =>
      go_enter Try.func69, Try.ntmps69
      go_wp2
      go_ret
      exact ⟨rfl, hb0⟩
    | succ d =>
      have hdi : (((d : Int) + 1) == 0) = false := by simp; omega
      by_cases he : 8 < h.en
      · have Hm : Hid ((PlanM.mk h sub).many (d + 1) = true) := hide (by simp [PlanM.many, he])
        have hei : (8 : Int) < (h.en : Int) := by omega
        go_enter Try.func69, Try.ntmps69
        go_wp2
        go_ret
        exact ⟨by rw [Hm.out]; rfl, hb0⟩
      · have hei : (h.en : Int) ≤ 8 := by omega
        go_enter Try.func69, Try.ntmps69
        go_wp2
        go_loopw [18] (fun i wr => ∃ k : Nat, k ≤ h.pn ∧ i = .int .i64 k ∧ Hid (∀ j, j < k → (sub j).many d = false) ∧ Hid (Below w.heap.size w wr)) (fun i _ => h.pn - (intOf i).toNat)
        case atStart => exact ⟨0, Nat.zero_le _, rfl, hide (fun j hj => absurd hj (Nat.not_lt_zero _)), hide hb0⟩
        case round =>
          obtain ⟨k, hk, rfl, Hall, HB⟩ := hrel
          by_cases hlt : k < h.pn
          · obtain ⟨hat, hsub⟩ := hs k hlt
            have hpa := hh.pa (by omega)
            have hat' := hat.below HB.out (hh.pl (by omega))
            have q0 := hat'.c0
            have q1 := hat'.c1
            have q2 := hat'.c2
            have q3 := hat'.c3
            have HI := hide ((hsub.grown HB.out).grown ((Below.refl _ wr).alloc (Nat.le_refl _) (.cells (sub k).head.cells 42)))
            simp only [PHead.cells] at HI
            go_wp2_with fail
            go_at_call 69
            refine (IH.out k d _ (by omega) HI.out).mono ?_
            rintro e w1 ⟨rfl, hb1⟩
            have hB1 := hide (HB.out.trans (((Below.refl _ wr).alloc (Nat.le_refl _) _).trans (hb1.mono (by simp)) |>.mono HB.out.size))
            cases hm : (sub k).many d with
            | true =>
              have Hm := hide (many_at hlt hm)
              clear hm
              go_wp2
              go_ret
              exact ⟨by rw [Hm.out]; rfl, hB1.out⟩
            | false =>
              have Hm := hide hm
              clear hm
              go_wp2
              go_roundw
              case rel =>
                have hn : ∀ j, j < k + 1 → (sub j).many d = false := fun j hj => by
                  by_cases e : j = k
                  · subst e; exact Hm.out
                  · exact Hall.out j (by omega)
                rw [← hpa]
                exact ⟨_, _, _, _, _, _, _, _, _, _, _, ⟨k + 1, by omega, by go_num, hide hn, hB1⟩, rfl⟩
              case measure => simp [intOf]; omega
          · have Hm := hide (many_none (h := h) (sub := sub) (d := d) (by omega) (fun i hi => Hall.out i (by omega)))
            go_wp2
            go_ret
            exact ⟨by rw [Hm.out]; rfl, HB.out⟩
end Go.Proofs.Ytjhkadffaephmaa
