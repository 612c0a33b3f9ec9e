/-
  The arguments as they came: an algebra, and what is told to be broken, out of their readings.
-/
import Derived.Test.YtjhkadffaephmaaHolds
import Derived.ProofKit
import Derived.OpenShut
import Derived.Below
import Derived.Lib.SmallJoins
import Derived.Deep.Matrix
namespace Go.Proofs.Ytjhkadffaephmaa
set_option maxRecDepth 100000
open Go.RowKit Go.ChangeShapes Go.WideShapes Go.Joins Go.Deep

theorem Try.cells24 : Try.prog.cellsOf 24 = 3 := by kernel_rfl
theorem Try.cells3 : Try.prog.cellsOf 3 = 1 := by kernel_rfl
theorem Try.cells22 : Try.prog.cellsOf 22 = 1 := by kernel_rfl
theorem Try.cells32 : Try.prog.cellsOf 32 = 1 := by kernel_rfl
theorem Try.cells26 : Try.prog.cellsOf 26 = 5 := by kernel_rfl

theorem array5 {α : Type} {cs : Array α} (h : cs.size = 5) : ∃ a b c d e, cs = #[a, b, c, d, e] := by
  obtain ⟨l⟩ := cs
  match l, h with
  | [a, b, c, d, e], _ => exact ⟨a, b, c, d, e, rfl⟩

section
variable {H : Type} {enc : TypeId × Value → H} {W : World}

theorem open_mat {n : Nat} {v : Value} {y : DataW H × List MemPlace} (h : DataW.trod enc Try.prog W 0 (fun _ => true) true n 22 [v] = some y) : ∃ m : Mat, v = m.val ∧ m.In W.heap.size W := by
  rcases open_int_rows Try.underlying22 Try.underlying32 Try.underlying3 Try.cells32 Try.cells3 h with ⟨hcs, _⟩ | ⟨a, len, cap, A, L, C, Z, hcs, _, hl, hm, _, hrows⟩
  · simp at hcs
    refine ⟨⟨none, 0, 0, 0, fun _ => none, fun _ => 0, fun _ => 0, fun _ => 0, ⟨0, fun _ => 0, fun _ _ => 0⟩⟩, hcs, ⟨?_, ?_, ?_, ?_, ?_, Nat.zero_le _, ?_⟩⟩
    all_goals intro r
    · exact absurd r (Nat.not_lt_zero _)
    · exact absurd r (Nat.not_lt_zero _)
    all_goals
      intro hr
      exact absurd hr (Nat.not_lt_zero _)
  · simp at hcs
    obtain ⟨gb, go, gs⟩ := a
    rcases Nat.eq_zero_or_pos len with hl0 | hlp
    · subst hl0
      refine ⟨⟨some ⟨gb, go, gs⟩, 0, 0, cap, A, C, fun _ => 0, fun _ => 0, ⟨0, fun _ => 0, fun _ _ => 0⟩⟩, hcs, ⟨?_, ?_, ?_, ?_, ?_, Nat.zero_le _, ?_⟩⟩
      all_goals intro r
      · exact absurd r (Nat.not_lt_zero _)
      · exact absurd r (Nat.not_lt_zero _)
      all_goals
        intro hr
        exact absurd hr (Nat.not_lt_zero _)
    · have hgs : gs = none := by simpa [Addr.add] using World.cell?_spot (hrows 0 (by omega)).1
      subst hgs
      have hrow : ∀ r, r < len → W.cell? ⟨gb, go + r, none⟩ = some (.slice (A r) (L r) (C r)) := fun r hr => by rw [← add_plain]; exact (hrows r (by omega)).1
      have hAdr : ∀ r, r < len → ∀ c, c < L r → A r = some ⟨((A r).getD default).block, ((A r).getD default).off, none⟩ ∧ W.cell? ⟨((A r).getD default).block, ((A r).getD default).off + c, none⟩ = some (.int .i64 ((Z r).getD c 0)) := fun r hr c hc => by
        obtain ⟨_, h1, _, hzl, _, h3, h4⟩ := hrows r (by omega)
        cases hA : A r with
        | none => have := h3 hA; omega
        | some a' =>
          obtain ⟨ab, ao, asp⟩ := a'
          obtain ⟨_, hcell⟩ := h4 _ hA
          have has : asp = none := by simpa [Addr.add] using World.cell?_spot (hcell 0 (by omega))
          subst has
          exact ⟨rfl, by have := hcell c (by omega); rwa [add_plain] at this⟩
      refine ⟨⟨some ⟨gb, go, none⟩, gb, go, cap, A, C, fun r => ((A r).getD default).block, fun r => ((A r).getD default).off, ⟨len, L, fun r c => (Z r).getD c 0⟩⟩, hcs, ⟨fun _ => rfl, fun _ => World.block_lt_of_cell? _ _ (hrow 0 hlp), hrow, fun r hr h0 => ⟨(hAdr r hr 0 h0).1, World.block_lt_of_cell? W ⟨((A r).getD default).block, ((A r).getD default).off + 0, none⟩ (hAdr r hr 0 h0).2⟩, fun r hr c hc => (hAdr r hr c hc).2, by show len ≤ maxLen; omega, fun r hr => ?_⟩⟩
      obtain ⟨_, h1, h2, _⟩ := hrows r (by have : r < len := hr; omega)
      show L r ≤ maxLen
      omega

theorem open_alg {b0 : Nat} {v : Value} {d : DataW H} {p : List MemPlace} (hv : Value.okWide Try.prog W .any b0 24 v) (h : DataW.Trod enc Try.prog W 0 (fun _ => true) true 24 v d p) :
    ∃ a : AlgM, v = a.val ∧ a.In W.heap.size W := by
  obtain ⟨c0, c1, c2, y0, y1, y2, m, rfl, rfl, rfl, h0, h1, h2⟩ := open_agg3 Try.underlying24 (by kernel_rfl) Try.cells24 hv h
  obtain ⟨s, e0, _, _⟩ := DataW.trod_int Try.underlying3 h0
  simp at e0
  obtain ⟨B, rfl, hB⟩ := open_mat h1
  obtain ⟨E, rfl, hE⟩ := open_mat h2
  exact ⟨⟨s, B, E⟩, by rw [e0]; rfl, hB, hE⟩

theorem open_brk {b0 : Nat} {v : Value} {d : DataW H} {p : List MemPlace} (hv : Value.okWide Try.prog W .any b0 26 v) (h : DataW.Trod enc Try.prog W 0 (fun _ => true) true 26 v d p) :
    ∃ b : Brk, v = b.val ∧ (Lit.int .i64 b.law).wf = true ∧ (Lit.int .i64 b.a).wf = true ∧ (Lit.int .i64 b.b).wf = true ∧ (Lit.int .i64 b.c).wf = true ∧ (Lit.int .i64 b.e).wf = true := by
  obtain ⟨cs, rfl, hsz⟩ := okWide_struct Try.underlying26 hv
  obtain ⟨c0, c1, c2, c3, c4, rfl⟩ := array5 (hsz.trans Try.cells26)
  obtain ⟨fuel, hf⟩ := h
  obtain ⟨xs, n, _, _, _, hlen, hfs⟩ := DataW.trod_struct Try.underlying26 hf
  match xs, hlen with
  | [y0, y1, y2, y3, y4], _ =>
    have k0 := hfs 0 _ rfl
    have k1 := hfs 1 _ rfl
    have k2 := hfs 2 _ rfl
    have k3 := hfs 3 _ rfl
    have k4 := hfs 4 _ rfl
    simp [Value.cells, Try.cells3] at k0 k1 k2 k3 k4
    obtain ⟨a0, e0, _, w0⟩ := DataW.trod_int Try.underlying3 k0
    obtain ⟨a1, e1, _, w1⟩ := DataW.trod_int Try.underlying3 k1
    obtain ⟨a2, e2, _, w2⟩ := DataW.trod_int Try.underlying3 k2
    obtain ⟨a3, e3, _, w3⟩ := DataW.trod_int Try.underlying3 k3
    obtain ⟨a4, e4, _, w4⟩ := DataW.trod_int Try.underlying3 k4
    simp at e0 e1 e2 e3 e4
    subst e0 e1 e2 e3 e4
    exact ⟨⟨a0, a1, a2, a3, a4⟩, rfl, w0, w1, w2, w3, w4⟩
end

theorem Try.own : ownKnob Try.prog.godebug = none := by kernel_rfl
theorem Try.laidOut : laidOutB Try.prog = true := by kernel_rfl

end Go.Proofs.Ytjhkadffaephmaa
