/-
  A net as it came, out of its reading.
-/
import Derived.Test.YtgjkdpgcogekmaaOpenPlan
import Derived.Test.YtgjkdpgcogekmaaNetM
namespace Go.Proofs.Ytgjkdpgcogekmaa
set_option maxRecDepth 100000
open Go.RowKit Go.ChangeShapes Go.WideShapes Go.Joins Go.Deep

theorem Try.cells50 : Try.prog.cellsOf 50 = 5 := by kernel_rfl
theorem Try.cells103 : Try.prog.cellsOf 103 = 3 := by kernel_rfl
theorem Try.cells48 : Try.prog.cellsOf 48 = 1 := by kernel_rfl

section
variable {H : Type} {enc : TypeId × Value → H} {W : World}

theorem open_alg_cells {n : Nat} {cs : List Value} {y : DataW H × List MemPlace} (h : DataW.trod enc Try.prog W 0 (fun _ => true) true n 24 cs = some y) :
    ∃ a : AlgM, cs = [.int .i64 a.size, a.B.val, a.E.val] ∧ a.In W.heap.size W := by
  obtain ⟨xs, n1, rfl, rfl, hlc, hlen, hfs⟩ := DataW.trod_struct Try.underlying24 h
  rw [Try.cells24] at hlc
  match cs, hlc, xs, hlen with
  | [c0, c1, c2], _, [y0, y1, y2], _ =>
    have k0 := hfs 0 _ rfl
    have k1 := hfs 1 _ rfl
    have k2 := hfs 2 _ rfl
    simp [Try.cells3, Try.cells22] at k0 k1 k2
    obtain ⟨s, e0, _, _⟩ := DataW.trod_int Try.underlying3 k0
    simp at e0
    subst e0
    obtain ⟨B, rfl, hB⟩ := open_mat k1
    obtain ⟨E, rfl, hE⟩ := open_mat k2
    exact ⟨⟨s, B, E⟩, rfl, hB, hE⟩

theorem open_link_cells {n : Nat} {cs : List Value} {y : DataW H × List MemPlace} (h : DataW.trod enc Try.prog W 0 (fun _ => true) true n 103 cs = some y) :
    ∃ f t e : Int, cs = [.int .i64 f, .int .i64 t, .int .i64 e] := by
  obtain ⟨xs, n1, rfl, rfl, hlc, hlen, hfs⟩ := DataW.trod_struct Try.underlying103 h
  rw [Try.cells103] at hlc
  match cs, hlc, xs, hlen with
  | [c0, c1, c2], _, [y0, y1, y2], _ =>
    have k0 := hfs 0 _ rfl
    have k1 := hfs 1 _ rfl
    have k2 := hfs 2 _ rfl
    simp [Try.cells3] at k0 k1 k2
    obtain ⟨a0, e0, _, _⟩ := DataW.trod_int Try.underlying3 k0
    obtain ⟨a1, e1, _, _⟩ := DataW.trod_int Try.underlying3 k1
    obtain ⟨a2, e2, _, _⟩ := DataW.trod_int Try.underlying3 k2
    simp at e0 e1 e2
    subst e0 e1 e2
    exact ⟨a0, a1, a2, rfl⟩

theorem open_links {n : Nat} {v : Value} {y : DataW H × List MemPlace} (h : DataW.trod enc Try.prog W 0 (fun _ => true) true n 48 [v] = some y) :
    ∃ (la : Option Addr) (ln lc lb lo : Nat) (F T E : Nat → Int), v = .slice la ln lc ∧ (0 < ln → la = some ⟨lb, lo, none⟩) ∧ (0 < ln → lb < W.heap.size) ∧
      (∀ i, i < ln → W.cell? ⟨lb, lo + i * 3, none⟩ = some (.int .i64 (F i))) ∧ (∀ i, i < ln → W.cell? ⟨lb, lo + i * 3 + 1, none⟩ = some (.int .i64 (T i))) ∧ (∀ i, i < ln → W.cell? ⟨lb, lo + i * 3 + 2, none⟩ = some (.int .i64 (E i))) ∧ ln ≤ maxLen := by
  rcases DataW.trod_slice Try.underlying48 h with ⟨hcs, _⟩ | ⟨a, len, cap, elems, rest, n2, hn, hcs, hy, _, hl, hm, hel, hat, hsp, _⟩
  · simp at hcs
    exact ⟨none, 0, 0, 0, 0, fun _ => 0, fun _ => 0, fun _ => 0, hcs, fun h => absurd h (Nat.not_lt_zero _), fun h => absurd h (Nat.not_lt_zero _), fun _ h => absurd h (Nat.not_lt_zero _), fun _ h => absurd h (Nat.not_lt_zero _), fun _ h => absurd h (Nat.not_lt_zero _), Nat.zero_le _⟩
  · simp at hcs
    obtain ⟨gb, go, gs⟩ := a
    rcases Nat.eq_zero_or_pos len with hl0 | hlp
    · subst hl0
      exact ⟨_, 0, cap, 0, 0, fun _ => 0, fun _ => 0, fun _ => 0, hcs, fun h => absurd h (Nat.not_lt_zero _), fun h => absurd h (Nat.not_lt_zero _), fun _ h => absurd h (Nat.not_lt_zero _), fun _ h => absurd h (Nat.not_lt_zero _), fun _ h => absurd h (Nat.not_lt_zero _), Nat.zero_le _⟩
    · have each : ∀ i, i < len → ∃ cs', W.cells? 0 ((⟨gb, go, gs⟩ : Addr).add (i * 3)) 3 = some cs' ∧ ∃ f t e : Int, cs' = [.int .i64 f, .int .i64 t, .int .i64 e] := fun i hi => by
        have := hat i hi
        rw [Try.cells103, List.getElem?_eq_getElem (by omega)] at this
        obtain ⟨cs', h1, h2⟩ := Option.bind_eq_some_iff.1 this
        exact ⟨cs', h1, open_link_cells h2⟩
      have hgs : gs = none := by
        obtain ⟨cs', h1, f, t, e, h2⟩ := each 0 hlp
        have := (World.cells?_some h1).2.2 0 (by omega)
        rw [h2] at this
        simpa [Addr.add] using World.cell?_spot this
      subst hgs
      obtain ⟨P, hP⟩ := choose_lt (α := Int × Int × Int) (n := len) (p := fun i p => W.cell? ⟨gb, go + i * 3, none⟩ = some (.int .i64 p.1) ∧ W.cell? ⟨gb, go + i * 3 + 1, none⟩ = some (.int .i64 p.2.1) ∧ W.cell? ⟨gb, go + i * 3 + 2, none⟩ = some (.int .i64 p.2.2)) (fun i hi => by
        obtain ⟨cs', h1, f, t, e, h2⟩ := each i hi
        obtain ⟨_, _, hc⟩ := World.cells?_some h1
        rw [add_plain] at hc
        have g : ∀ j, j < 3 → W.cell? ⟨gb, go + i * 3 + j, none⟩ = [Value.int .i64 f, .int .i64 t, .int .i64 e][j]? := fun j hj => by rw [← add_plain, ← h2]; exact hc j hj
        exact ⟨(f, t, e), g 0 (by omega), g 1 (by omega), g 2 (by omega)⟩)
      exact ⟨_, len, cap, gb, go, fun i => (P i).1, fun i => (P i).2.1, fun i => (P i).2.2, hcs, fun _ => rfl, fun _ => World.block_lt_of_cell? _ _ (hP 0 hlp).1, fun i hi => (hP i hi).1, fun i hi => (hP i hi).2.1, fun i hi => (hP i hi).2.2, by omega⟩

theorem open_net {b0 : Nat} {v : Value} {d : DataW H} {p : List MemPlace} (hv : Value.okWide Try.prog W .any b0 50 v) (h : DataW.Trod enc Try.prog W 0 (fun _ => true) true 50 v d p) :
    ∃ n : NetM, v = n.val ∧ n.In W.heap.size W := by
  obtain ⟨cs, rfl, hsz⟩ := okWide_struct Try.underlying50 hv
  obtain ⟨fuel, hf⟩ := h
  obtain ⟨xs, n1, _, _, hlc, hlen, hfs⟩ := DataW.trod_struct Try.underlying50 hf
  obtain ⟨c0, c1, c2, c3, c4, rfl⟩ := array5 (hsz.trans Try.cells50)
  match xs, hlen with
  | [y0, y1, y2], _ =>
    have k0 := hfs 0 _ rfl
    have k1 := hfs 1 _ rfl
    have k2 := hfs 2 _ rfl
    simp [Value.cells, Try.cells3, Try.cells24, Try.cells48] at k0 k1 k2
    obtain ⟨a, ea, hA⟩ := open_alg_cells k0
    obtain ⟨s, e1, _, _⟩ := DataW.trod_int Try.underlying3 k1
    simp at e1 ea
    obtain ⟨rfl, rfl, rfl⟩ := ea
    subst e1
    obtain ⟨la, ln, lc, lb, lo, F, T, E, rfl, q1, q2, q3, q4, q5, q6⟩ := open_links k2
    exact ⟨⟨a, s, la, ln, lc, lb, lo, F, T, E⟩, rfl, hA, q1, q2, q3, q4, q5, q6⟩

theorem open_state {b0 : Nat} {v : Value} {d : DataW H} {p : List MemPlace} (hv : Value.okWide Try.prog W .any b0 22 v) (h : DataW.Trod enc Try.prog W 0 (fun _ => true) true 22 v d p) :
    ∃ m : Mat, v = m.val ∧ m.In W.heap.size W := by
  obtain ⟨a, l, c, rfl⟩ := okWide_slice Try.underlying22 hv
  obtain ⟨fuel, hf⟩ := h
  exact open_mat hf
end

end Go.Proofs.Ytgjkdpgcogekmaa
