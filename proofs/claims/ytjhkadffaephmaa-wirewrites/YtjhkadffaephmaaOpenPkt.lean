/-
  A packet as it came, out of its reading; strings.
-/
import Derived.Test.YtjhkadffaephmaaOpen
import Derived.Test.YtjhkadffaephmaaWireM
import Derived.SizedLaws
namespace Go.Proofs.Ytjhkadffaephmaa
set_option maxRecDepth 100000
open Go.RowKit Go.ChangeShapes Go.WideShapes Go.Joins Go.Deep

theorem Try.cells79 : Try.prog.cellsOf 79 = 3 := by kernel_rfl
theorem Try.bytes3 : Try.prog.bytesOf 3 = 8 := by kernel_rfl

section
variable {H : Type} {enc : TypeId × Value → H} {W : World}

theorem open_row {n : Nat} {v : Value} {y : DataW H × List MemPlace} (h : DataW.trod enc Try.prog W 0 (fun _ => true) true n 32 [v] = some y) (hw : (y.1.weights Try.prog 32).all (· ≤ reachBytes) = true) :
    ∃ (eg : Option Addr) (en ec eb eo : Nat) (ev : Nat → Int), v = .slice eg en ec ∧ (0 < en → eg = some ⟨eb, eo, none⟩) ∧ (0 < en → eb < W.heap.size) ∧ (∀ i, i < en → W.cell? ⟨eb, eo + i, none⟩ = some (.int .i64 (ev i))) ∧ en ≤ maxLen ∧ en ≤ 17592186044416 := by
  have hlen : ∀ (a : Option Addr) (l c : Nat), v = .slice a l c → l ≤ 17592186044416 := by
    intro a l c hv
    rcases DataW.trod_slice Try.underlying32 h with ⟨hcs, _⟩ | ⟨a', len, cap, elems, rest, n2, hn, hcs, hy, _, hl, hm, hel, _⟩
    · simp at hcs
      rw [hcs] at hv
      cases hv
      omega
    · simp at hcs
      rw [hcs] at hv
      cases hv
      rw [hy, List.all_eq_true] at hw
      have := hw ((elems.length + rest.length) * Try.prog.bytesOf 3) (by simp [DataW.weights, Try.underlying32])
      rw [Try.bytes3] at this
      have := of_decide_eq_true this
      have e : reachBytes = 140737488351232 := rfl
      omega
  rcases open_ints Try.underlying32 Try.underlying3 Try.cells3 h with ⟨hcs, _⟩ | ⟨a, len, cap, zs, hcs, _, hl, hm, hz, _, hcell, _⟩
  · simp at hcs
    exact ⟨none, 0, 0, 0, 0, fun _ => 0, hcs, fun h => absurd h (Nat.not_lt_zero _), fun h => absurd h (Nat.not_lt_zero _), fun _ h => absurd h (Nat.not_lt_zero _), Nat.zero_le _, Nat.zero_le _⟩
  · simp at hcs
    simp only [if_true] at hz
    have hsm := hlen _ _ _ hcs
    obtain ⟨gb, go, gs⟩ := a
    rcases Nat.eq_zero_or_pos len with hl0 | hlp
    · subst hl0
      exact ⟨_, 0, cap, 0, 0, fun _ => 0, hcs, fun h => absurd h (Nat.not_lt_zero _), fun h => absurd h (Nat.not_lt_zero _), fun _ h => absurd h (Nat.not_lt_zero _), Nat.zero_le _, Nat.zero_le _⟩
    · have hgs : gs = none := by simpa [Addr.add] using World.cell?_spot (hcell 0 (by omega))
      subst hgs
      have hc : ∀ i, i < len → W.cell? ⟨gb, go + i, none⟩ = some (.int .i64 (zs.getD i 0)) := fun i hi => by rw [← add_plain]; exact hcell i (by omega)
      exact ⟨_, len, cap, gb, go, fun i => zs.getD i 0, hcs, fun _ => rfl, fun _ => World.block_lt_of_cell? _ _ (hc 0 hlp), hc, by omega, hsm⟩

theorem open_pkt {b0 : Nat} {v : Value} {d : DataW H} {p : List MemPlace} (hv : Value.okWide Try.prog W .any b0 79 v) (h : DataW.Trod enc Try.prog W 0 (fun _ => true) true 79 v d p)
    (hw : (d.weights Try.prog 79).all (· ≤ reachBytes) = true) : ∃ q : PktM, v = q.val ∧ q.In W.heap.size W := by
  obtain ⟨cs, rfl, hsz⟩ := okWide_struct Try.underlying79 hv
  obtain ⟨fuel, hf⟩ := h
  obtain ⟨xs, n1, rfl, hy, hlc, hlen, hfs⟩ := DataW.trod_struct Try.underlying79 hf
  have hcl : cs.toList.length = 3 := by rw [Try.cells79] at hlc; simpa [Value.cells] using hlc
  obtain ⟨l⟩ := cs
  match l, hcl, xs, hlen with
  | [c0, c1, c2], _, [y0, y1, y2], _ =>
    have k0 := hfs 0 _ rfl
    have k1 := hfs 1 _ rfl
    have k2 := hfs 2 _ rfl
    simp [Try.cells3, Try.cells32, Value.cells] at k0 k1 k2
    obtain ⟨a0, e0, _, w0⟩ := DataW.trod_int Try.underlying3 k0
    obtain ⟨a1, e1, _, w1⟩ := DataW.trod_int Try.underlying3 k1
    simp at e0 e1
    subst e0 e1
    have hd : d = .agg [y0.1, y1.1, y2.1] := by have := congrArg Prod.fst hy; simpa using this
    obtain ⟨eg, en, ec, eb, eo, ev, rfl, q1, q2, q3, q4, q5⟩ := open_row k2 (by
      rw [List.all_eq_true] at hw ⊢
      intro k hk
      refine hw k ?_
      rw [hd]
      simp only [DataW.weights, Try.underlying79]
      exact DataW.weights_mem_each (j := 2) (t := 32) (d := y2.1) rfl rfl k hk)
    exact ⟨⟨a0, a1, eg, en, ec, eb, eo, ev⟩, rfl, ⟨⟨q1, q3, q4⟩, q2, q5⟩⟩

theorem open_txt {b0 : Nat} {v : Value} {d : DataW H} {p : List MemPlace} (hv : Value.okWide Try.prog W .any b0 9 v) (h : DataW.Trod enc Try.prog W 0 (fun _ => true) true 9 v d p) : ∃ l : List UInt8, v = txt l ∧ l.length ≤ maxLen := by
  obtain ⟨s, rfl⟩ := okWide_string Try.underlying9 hv
  obtain ⟨fuel, hf⟩ := h
  obtain ⟨s', e, _, hl⟩ := DataW.trod_string Try.underlying9 hf
  have es : s = s' := by simpa [Value.cells] using e
  subst es
  exact ⟨s.data.toList, by simp [txt], by rw [Array.length_toList]; exact hl⟩
end

end Go.Proofs.Ytjhkadffaephmaa
