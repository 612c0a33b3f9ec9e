/-
  plan.lesser, buildHops, buildWide.
-/
import Derived.Test.YtjhkadffaephmabTable
import Derived.Test.YtjhkadffaephmabPlanF
import Derived.Test.YtjhkadffaephmabDraw
namespace Go.Proofs.Ytjhkadffaephmab
set_option maxRecDepth 100000
open Go.RowKit

/-- It lies in blocks from b on. -/
structure Mat.From (m : Mat) (b : Nat) : Prop where
  gb : 0 < m.t.len → b ≤ m.gb
  rows : ∀ r, r < m.t.len → 0 < m.t.L r → b ≤ m.RB r
structure AlgM.From (m : AlgM) (b : Nat) : Prop where
  B : m.B.From b
  E : m.E.From b
theorem Mat.From.mono {m : Mat} {b c : Nat} (h : m.From b) (hc : c ≤ b) : m.From c := ⟨fun h0 => Nat.le_trans hc (h.gb h0), fun r hr h0 => Nat.le_trans hc (h.rows r hr h0)⟩
theorem AlgM.From.mono {m : AlgM} {b c : Nat} (h : m.From b) (hc : c ≤ b) : m.From c := ⟨h.B.mono hc, h.E.mono hc⟩
theorem made_from (b n p : Nat) (Z : Nat → Nat → Int) : (madeMat b n p Z).From b := ⟨fun _ => Nat.le_refl _, fun r _ _ => by show b ≤ b + 1 + r; omega⟩

theorem cell_other {W : World} {B C i j : Nat} (hne : B ≠ C) (v : Value) : (W.setCell ⟨C, i, none⟩ v).cell? ⟨B, j, none⟩ = W.cell? ⟨B, j, none⟩ :=
  World.cell?_of_block (by
    show (W.heap.modify C _)[B]? = _
    rw [Array.getElem?_modify, if_neg (Ne.symm hne)])

theorem Mat.In.other {m : Mat} {n b C i : Nat} {w : World} (h : m.In n w) (hf : m.From b) (hC : C < b) (v : Value) : m.In n (w.setCell ⟨C, i, none⟩ v) where
  ga := h.ga
  gb := h.gb
  row := fun r hr => by rw [cell_other (by have := hf.gb (by omega); omega)]; exact h.row r hr
  addr := h.addr
  cell := fun r hr c hc => by rw [cell_other (by have := hf.rows r hr (by omega); omega)]; exact h.cell r hr c hc
  len := h.len
  lens := h.lens

/-- A row of ints that lies in a block of its own. -/
def Lies (W : World) (b : Nat) : Prop := ∃ cs, Blk W b cs 3
theorem Lies.lt {W : World} {b : Nat} (h : Lies W b) : b < W.heap.size := by obtain ⟨_, hc⟩ := h; exact hc.lt
theorem Lies.below {W W' : World} {b k : Nat} (h : Lies W b) (hb : Below k W W') (hk : b < k) : Lies W' b := by obtain ⟨cs, hc⟩ := h; exact ⟨cs, hc.below hb hk⟩
theorem Lies.grown {W W' : World} {b : Nat} (h : Lies W b) (hb : Below W.heap.size W W') : Lies W' b := h.below hb h.lt
theorem Lies.other {W : World} {b g : Nat} (h : Lies W b) (hne : b ≠ g) (i : Nat) (v : Value) : Lies (W.setCell ⟨g, i, none⟩ v) b := by obtain ⟨cs, hc⟩ := h; exact ⟨cs, hc.other hne i v⟩
theorem Lies.set {W : World} {b g : Nat} (h : Lies W b) (i : Nat) (v : Value) : Lies (W.setCell ⟨g, i, none⟩ v) b := by
  obtain ⟨cs, hc⟩ := h
  by_cases e : b = g
  · subst e; exact ⟨_, hc.set i v⟩
  · exact ⟨cs, hc.other e i v⟩
theorem Lies.kept {W W' : World} {b : Nat} {row : Option Nat} (h : Lies W b) (hg : W.grownBy W' row) (hne : row ≠ some b) : Lies W' b := by obtain ⟨cs, hc⟩ := h; exact ⟨cs, hc.kept hg (fun e => hne e.symm)⟩
theorem Lies.frozen {W : World} {b : Nat} (h : Lies W b) (i : Nat) : W.frozen? ⟨b, i, none⟩ = false := by obtain ⟨_, hc⟩ := h; exact hc.frozen i
theorem Lies.own {w : World} {lo g p c n : Nat} {xs : List Value} (h : w.ownsRow lo 3 1 (.slice (some ⟨g, 0, none⟩) p c) n xs) : Lies w g := by
  obtain ⟨_, h2⟩ := h
  rcases h2 with ⟨e0, _⟩ | ⟨g', cap', cur, e1, _, hgb, _⟩
  · cases e0
  · obtain ⟨rfl, _, _⟩ : g = g' ∧ _ := by simpa using e1
    exact ⟨cur, hgb⟩
/-- All its rows do. -/
def Mat.Soft (m : Mat) (W : World) : Prop := ∀ r, r < m.t.len → 0 < m.t.L r → Lies W (m.RB r)
theorem Mat.Soft.grown {m : Mat} {W W' : World} (h : m.Soft W) (hb : Below W.heap.size W W') : m.Soft W' := fun r hr h0 => (h r hr h0).grown hb
theorem Mat.Soft.set {m : Mat} {W : World} (h : m.Soft W) (g i : Nat) (v : Value) : m.Soft (W.setCell ⟨g, i, none⟩ v) := fun r hr h0 => (h r hr h0).set i v

/-- An algebra of its own, in blocks from b on that may be written. -/
structure AlgM.FromS (m : AlgM) (b : Nat) (W : World) : Prop where
  B : m.B.From b
  E : m.E.From b
  sB : m.B.Soft W
  sE : m.E.Soft W
theorem AlgM.FromS.mono {m : AlgM} {b c : Nat} {W : World} (h : m.FromS b W) (hc : c ≤ b) : m.FromS c W := ⟨h.B.mono hc, h.E.mono hc, h.sB, h.sE⟩

/-- What a call that builds returns: an algebra of its own, in blocks from b on. -/
def Made (x : NAlg) (b : Nat) (e : Ending) (w' : World) : Prop := ∃ m : AlgM, e = .returned m.val ∧ m.alg = x.alg ∧ m.In w'.heap.size w' ∧ m.FromS b w'

/-- Three stores into a block of three cells. -/
def set3 (W : World) (B : Nat) (v0 v1 v2 : Value) : World := ((W.setCell ⟨B, 0, none⟩ v0).setCell ⟨B, 1, none⟩ v1).setCell ⟨B, 2, none⟩ v2
theorem Blk.set3 {W : World} {B : Nat} {t : TypeId} {u0 u1 u2 : Value} (h : Blk W B #[u0, u1, u2] t) (v0 v1 v2 : Value) : Blk (set3 W B v0 v1 v2) B #[v0, v1, v2] t := by
  have := ((h.set 0 v0).set 1 v1).set 2 v2
  unfold Ytjhkadffaephmab.set3
  simpa using this
theorem Blk.far3 {W : World} {B C : Nat} {vs : Array Value} {t : TypeId} (h : Blk W B vs t) (hne : B ≠ C) (v0 v1 v2 : Value) : Blk (((W.setCell ⟨C, 0, none⟩ v0).setCell ⟨C, 1, none⟩ v1).setCell ⟨C, 2, none⟩ v2) B vs t :=
  ((h.other hne _ _).other hne _ _).other hne _ _
theorem below3 {W W' : World} {k B : Nat} (h : Below k W W') (hk : k ≤ B) (v0 v1 v2 : Value) : Below k W (set3 W' B v0 v1 v2) :=
  ((h.setCell (p := ⟨B, 0, none⟩) hk _).setCell (p := ⟨B, 1, none⟩) hk _).setCell (p := ⟨B, 2, none⟩) hk _

theorem mat_in {W : World} {b n p : Nat} {Z : Nat → Nat → Int} (hn : n ≤ 24) (hp : p ≤ 24) (hout : Blk W b (outArr (b + 1) p n n) 22) (hrows : ∀ r, r < n → Blk W (b + 1 + r) (rowArr (Z r) p p) 3) : (madeMat b n p Z).In W.heap.size W where
  ga := fun _ => rfl
  gb := fun _ => hout.lt
  row := fun r hr => by
    have hr' : r < n := hr
    show W.cell? ⟨b, 0 + r, none⟩ = _
    rw [hout.cell (0 + r), Nat.zero_add, outArr_get hr', if_pos hr']
    rfl
  addr := fun r hr _ => ⟨rfl, (hrows r hr).lt⟩
  cell := fun r hr c hc => by
    have hc' : c < p := hc
    show W.cell? ⟨b + 1 + r, 0 + c, none⟩ = _
    rw [(hrows r hr).cell (0 + c), Nat.zero_add, rowArr_get hc', if_pos hc']
    rfl
  len := by show n ≤ maxLen; unfold maxLen; omega
  lens := fun _ _ => by show p ≤ maxLen; unfold maxLen; omega

theorem made_end {x : NAlg} {W1 w1 w2 : World} {B b : Nat} (hx : x.Ok) (h1 : TabI W1 x.size x.size (fun a b => (x.best a b : Int)) x.size w1) (h2 : TabI w1 x.el x.size (fun e a => (x.edge e a : Int)) x.el w2) (hB : B < W1.heap.size) (hb : b ≤ W1.heap.size) (v0 v1 v2 : Value) :
    Made x b (.returned (.agg #[.int .i64 x.size, .slice (some ⟨W1.heap.size, 0, none⟩) x.size x.size, .slice (some ⟨w1.heap.size, 0, none⟩) x.el x.el])) (((w2.setCell ⟨B, 0, none⟩ v0).setCell ⟨B, 1, none⟩ v1).setCell ⟨B, 2, none⟩ v2) := by
  have hi := hx.hi
  have he := hx.el
  have s1 := h1.size
  refine ⟨⟨x.size, madeMat W1.heap.size x.size x.size (fun a b => (x.best a b : Int)), madeMat w1.heap.size x.el x.size (fun e a => (x.edge e a : Int))⟩, rfl, rfl, ⟨?_, ?_⟩, ⟨(made_from _ _ _ _).mono hb, (made_from _ _ _ _).mono (by omega), fun r hr _ => ⟨_, ((h1.rows r hr).below h2.below (h1.rows r hr).lt).far3 (by omega) _ _ _⟩, fun r hr _ => ⟨_, (h2.rows r hr).far3 (by omega) _ _ _⟩⟩⟩
  · exact mat_in hi hi ((h1.out.below h2.below h1.out.lt).far3 (by omega) _ _ _) (fun r hr => ((h1.rows r hr).below h2.below (h1.rows r hr).lt).far3 (by omega) _ _ _)
  · exact mat_in (by omega) hi (h2.out.far3 (by omega) _ _ _) (fun r hr => (h2.rows r hr).far3 (by omega) _ _ _)

end Go.Proofs.Ytjhkadffaephmab
