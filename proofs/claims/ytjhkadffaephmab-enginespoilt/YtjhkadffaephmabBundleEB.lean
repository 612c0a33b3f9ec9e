/-
  Our own texts, bundled: a claim holds few files.
-/
import Derived.Test.YtjhkadffaephmabBundleBE
/-
  A path as it came, out of its reading.
-/
namespace Go.Proofs.Ytjhkadffaephmab
set_option maxRecDepth 100000
open Go.RowKit Go.ChangeShapes Go.WideShapes Go.Joins Go.Deep

section
variable {H : Type} {enc : TypeId × Value → H} {W : World}

theorem open_path_cells {n : Nat} {cs : List Value} {y : DataW H × List MemPlace} (h : DataW.trod enc Try.prog W 0 (fun _ => true) true n 22 cs = some y) :
    ∃ (a : Option Addr) (l q b o : Nat) (f : Nat → Int), cs = [.slice a l q] ∧ Ints a l b o f W ∧ (0 < l → b < W.heap.size) ∧ l ≤ q ∧ q ≤ maxLen := by
  rcases open_ints Try.underlying22 Try.underlying3 Try.cells3 h with ⟨hcs, _⟩ | ⟨a, len, cap, zs, hcs, _, hl, hm, hz, _, hcell, _⟩
  · exact ⟨none, 0, 0, 0, 0, fun _ => 0, hcs, ⟨fun h => absurd h (Nat.not_lt_zero _), fun _ h => absurd h (Nat.not_lt_zero _), Nat.zero_le _⟩, fun h => absurd h (Nat.not_lt_zero _), Nat.le_refl _, Nat.zero_le _⟩
  · simp only [if_true] at hz
    obtain ⟨gb, go, gs⟩ := a
    rcases Nat.eq_zero_or_pos len with hl0 | hlp
    · subst hl0
      exact ⟨_, 0, cap, 0, 0, fun _ => 0, hcs, ⟨fun h => absurd h (Nat.not_lt_zero _), fun _ h => absurd h (Nat.not_lt_zero _), Nat.zero_le _⟩, fun h => absurd h (Nat.not_lt_zero _), Nat.zero_le _, hm⟩
    · have hgs : gs = none := by simpa [Addr.add] using World.cell?_spot (hcell 0 (by omega))
      subst hgs
      have hc : ∀ i, i < len → W.cell? ⟨gb, go + i, none⟩ = some (.int .i64 (zs.getD i 0)) := fun i hi => by rw [← add_plain]; exact hcell i (by omega)
      exact ⟨_, len, cap, gb, go, fun i => zs.getD i 0, hcs, ⟨fun _ => rfl, hc, by omega⟩, fun _ => World.block_lt_of_cell? _ _ (hc 0 hlp), hl, hm⟩
theorem open_path {b0 : Nat} {v : Value} {d : DataW H} {p : List MemPlace} (hv : Value.okWide Try.prog W .any b0 22 v) (h : DataW.Trod enc Try.prog W 0 (fun _ => true) true 22 v d p) :
    ∃ (a : Option Addr) (l q b o : Nat) (f : Nat → Int), v = .slice a l q ∧ Ints a l b o f W ∧ (0 < l → b < W.heap.size) ∧ l ≤ q ∧ q ≤ maxLen := by
  obtain ⟨a, l, c, rfl⟩ := okWide_slice Try.underlying22 hv
  obtain ⟨fuel, hf⟩ := h
  obtain ⟨a', l', q, b, o, f, e, r⟩ := open_path_cells hf
  have e' : Value.slice a l c = .slice a' l' q := by simpa [Value.cells] using e
  exact ⟨a', l', q, b, o, f, e', r⟩
end

end Go.Proofs.Ytjhkadffaephmab

/-
  A number as it came: its range.
-/
namespace Go.Proofs.Ytjhkadffaephmab
open Go.RowKit

theorem int_range {a : Int} (h : (Lit.int .i64 a).wf = true) : -9223372036854775808 ≤ a ∧ a ≤ 9223372036854775807 := by
  simp [Lit.wf, IntKind.min, IntKind.max, IntKind.bits, IntKind.signed] at h
  omega

end Go.Proofs.Ytjhkadffaephmab
