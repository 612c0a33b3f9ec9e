/-
  Our own texts, bundled: a claim holds few files.
-/
import Derived.Test.YtjhkadffaephmabBundleEB
import Derived.Test.YtjhkadffaephmabBundleEI
/-
  Routes, and squares of routes, as they came, out of their readings.
-/
namespace Go.Proofs.Ytjhkadffaephmab
set_option maxRecDepth 100000
open Go.RowKit Go.ChangeShapes Go.WideShapes Go.Joins Go.Deep

theorem Try.cells71 : Try.prog.cellsOf 71 = 2 := by kernel_rfl
theorem Try.cells94 : Try.prog.cellsOf 94 = 1 := by kernel_rfl

section
variable {H : Type} {enc : TypeId × Value → H} {W : World}

theorem open_route_cells {n : Nat} {cs : List Value} {y : DataW H × List MemPlace} (h : DataW.trod enc Try.prog W 0 (fun _ => true) true n 71 cs = some y) :
    ∃ r : RtM, cs = [.int .i64 r.w, .slice r.pa r.l r.q] ∧ r.In W.heap.size W ∧ r.l ≤ r.q ∧ r.q ≤ maxLen := by
  obtain ⟨xs, n1, rfl, rfl, hlc, hlen, hfs⟩ := DataW.trod_struct Try.underlying71 h
  rw [Try.cells71] at hlc
  match cs, hlc, xs, hlen with
  | [c0, c1], _, [y0, y1], _ =>
    have k0 := hfs 0 _ rfl
    have k1 := hfs 1 _ rfl
    simp [Try.cells3, Try.cells22] at k0 k1
    obtain ⟨s, e0, _, _⟩ := DataW.trod_int Try.underlying3 k0
    simp at e0
    subst e0
    obtain ⟨a, l, q, b, o, f, e1, hI, hb, m1, m2⟩ := open_path_cells k1
    simp at e1
    subst e1
    exact ⟨⟨s, a, l, q, b, o, f⟩, rfl, ⟨hI, hb⟩, m1, m2⟩

theorem open_route {b0 : Nat} {v : Value} {d : DataW H} {p : List MemPlace} (hv : Value.okWide Try.prog W .any b0 71 v) (h : DataW.Trod enc Try.prog W 0 (fun _ => true) true 71 v d p) :
    ∃ r : RtM, v = r.val ∧ r.In W.heap.size W ∧ (r.l ≤ r.q ∧ r.q ≤ maxLen) := by
  obtain ⟨cs, rfl, hsz⟩ := okWide_struct Try.underlying71 hv
  obtain ⟨fuel, hf⟩ := h
  obtain ⟨r, e, hr⟩ := open_route_cells hf
  refine ⟨r, ?_, hr⟩
  have e' : cs.toList = [.int .i64 r.w, .slice r.pa r.l r.q] := by simpa [Value.cells] using e
  show Value.agg cs = .agg r.cells
  congr 1
  exact Array.ext' (by rw [e']; rfl)

/-- A row of routes where it lies. -/
theorem open_routeRow {n : Nat} {v : Value} {y : DataW H × List MemPlace} (h : DataW.trod enc Try.prog W 0 (fun _ => true) true n 94 [v] = some y) :
    ∃ (a : Option Addr) (l q b o : Nat) (R : Nat → RtM), v = .slice a l q ∧ (0 < l → a = some ⟨b, o, none⟩ ∧ b < W.heap.size) ∧ (∀ c, c < l → W.cell? ⟨b, o + c * 2, none⟩ = some (.int .i64 (R c).w) ∧ W.cell? ⟨b, o + c * 2 + 1, none⟩ = some (.slice (R c).pa (R c).l (R c).q) ∧ (R c).In W.heap.size W ∧ (R c).l ≤ (R c).q ∧ (R c).q ≤ maxLen) ∧ l ≤ maxLen := by
  rcases DataW.trod_slice Try.underlying94 h with ⟨hcs, _⟩ | ⟨a, len, cap, elems, rest, n2, hn, hcs, hy, _, hl, hm, hel, hat, hsp, _⟩
  · simp at hcs
    exact ⟨none, 0, 0, 0, 0, fun _ => zeroR, hcs, fun h => absurd h (Nat.not_lt_zero _), fun _ h => absurd h (Nat.not_lt_zero _), Nat.zero_le _⟩
  · simp at hcs
    obtain ⟨gb, go, gs⟩ := a
    rcases Nat.eq_zero_or_pos len with hl0 | hlp
    · subst hl0
      exact ⟨_, 0, cap, 0, 0, fun _ => zeroR, hcs, fun h => absurd h (Nat.not_lt_zero _), fun _ h => absurd h (Nat.not_lt_zero _), Nat.zero_le _⟩
    · have each : ∀ i, i < len → ∃ cs', W.cells? 0 ((⟨gb, go, gs⟩ : Addr).add (i * 2)) 2 = some cs' ∧ ∃ r : RtM, cs' = [.int .i64 r.w, .slice r.pa r.l r.q] ∧ r.In W.heap.size W ∧ r.l ≤ r.q ∧ r.q ≤ maxLen := fun i hi => by
        have := hat i hi
        rw [Try.cells71, List.getElem?_eq_getElem (by omega)] at this
        obtain ⟨cs', h1, h2⟩ := Option.bind_eq_some_iff.1 this
        exact ⟨cs', h1, open_route_cells h2⟩
      have hgs : gs = none := by
        obtain ⟨cs', h1, r, h2, _⟩ := each 0 hlp
        have := (World.cells?_some h1).2.2 0 (by omega)
        rw [h2] at this
        simpa [Addr.add] using World.cell?_spot this
      subst hgs
      haveI : Inhabited RtM := ⟨zeroR⟩
      obtain ⟨P, hP⟩ := choose_lt (α := RtM) (n := len) (p := fun i r => W.cell? ⟨gb, go + i * 2, none⟩ = some (.int .i64 r.w) ∧ W.cell? ⟨gb, go + i * 2 + 1, none⟩ = some (.slice r.pa r.l r.q) ∧ r.In W.heap.size W ∧ r.l ≤ r.q ∧ r.q ≤ maxLen) (fun i hi => by
        obtain ⟨cs', h1, r, h2, h3⟩ := each i hi
        obtain ⟨_, _, hc⟩ := World.cells?_some h1
        rw [add_plain] at hc
        have g : ∀ j, j < 2 → W.cell? ⟨gb, go + i * 2 + j, none⟩ = [Value.int .i64 r.w, .slice r.pa r.l r.q][j]? := fun j hj => by rw [← add_plain, ← h2]; exact hc j hj
        exact ⟨r, g 0 (by omega), g 1 (by omega), h3⟩)
      exact ⟨_, len, cap, gb, go, P, hcs, fun _ => ⟨rfl, World.block_lt_of_cell? _ _ (hP 0 hlp).1⟩, hP, by omega⟩

/-- A row as it lies. -/
structure RowV where
  a : Option Addr
  l : Nat
  q : Nat
  b : Nat
  o : Nat
  R : Nat → RtM
def noRow : RowV := ⟨none, 0, 0, 0, 0, fun _ => zeroR⟩
structure RowV.In (x : RowV) (W : World) : Prop where
  addr : 0 < x.l → x.a = some ⟨x.b, x.o, none⟩ ∧ x.b < W.heap.size
  cell : ∀ c, c < x.l → W.cell? ⟨x.b, x.o + c * 2, none⟩ = some (.int .i64 (x.R c).w) ∧ W.cell? ⟨x.b, x.o + c * 2 + 1, none⟩ = some (.slice (x.R c).pa (x.R c).l (x.R c).q) ∧ (x.R c).In W.heap.size W ∧ (x.R c).l ≤ (x.R c).q ∧ (x.R c).q ≤ maxLen
  len : x.l ≤ maxLen

theorem open_routes {b0 : Nat} {v : Value} {d : DataW H} {p : List MemPlace} (hv : Value.okWide Try.prog W .any b0 83 v) (h : DataW.Trod enc Try.prog W 0 (fun _ => true) true 83 v d p) :
    ∃ m : RMat, v = m.val ∧ m.In W.heap.size W ∧ m.Caps := by
  obtain ⟨a0, l0, c0, rfl⟩ := okWide_slice Try.underlying83 hv
  obtain ⟨fuel, hf⟩ := h
  have none_in : ∀ (a : Option Addr) (c : Nat), (RMat.mk a 0 0 c (fun _ => none) (fun _ => 0) (fun _ => 0) (fun _ => 0) 0 (fun _ => 0) (fun _ _ => zeroR)).In W.heap.size W := fun a c =>
    ⟨fun h => absurd h (Nat.not_lt_zero _), fun h => absurd h (Nat.not_lt_zero _), fun _ h => absurd h (Nat.not_lt_zero _), fun _ h => absurd h (Nat.not_lt_zero _), fun _ h => absurd h (Nat.not_lt_zero _), fun _ h => absurd h (Nat.not_lt_zero _), fun _ h => absurd h (Nat.not_lt_zero _), Nat.zero_le _, fun _ h => absurd h (Nat.not_lt_zero _)⟩
  rcases DataW.trod_slice Try.underlying83 hf with ⟨hcs, _⟩ | ⟨a, len, cap, elems, rest, n2, hn, hcs, hy, _, hl, hm, hel, hat, hsp, _⟩
  · simp [Value.cells] at hcs
    obtain ⟨rfl, rfl, rfl⟩ := hcs
    exact ⟨_, rfl, none_in none 0, fun r hr => absurd hr (Nat.not_lt_zero _)⟩
  · simp [Value.cells] at hcs
    obtain ⟨rfl, rfl, rfl⟩ := hcs
    obtain ⟨gb, go, gs⟩ := a
    rcases Nat.eq_zero_or_pos l0 with hl0 | hlp
    · subst hl0
      exact ⟨_, rfl, none_in _ c0, fun r hr => absurd hr (Nat.not_lt_zero _)⟩
    · have each : ∀ i, i < l0 → ∃ v', W.cells? 0 ((⟨gb, go, gs⟩ : Addr).add i) 1 = some [v'] ∧ ∃ x : RowV, v' = .slice x.a x.l x.q ∧ x.In W := fun i hi => by
        have := hat i hi
        rw [Try.cells94, List.getElem?_eq_getElem (by omega)] at this
        obtain ⟨cs', h1, h2⟩ := Option.bind_eq_some_iff.1 this
        rw [Nat.mul_one] at h1
        have hlen := (World.cells?_some h1).2.1
        obtain ⟨v', rfl⟩ : ∃ v', cs' = [v'] := List.length_eq_one_iff.1 hlen
        obtain ⟨a, l, q, b, o, R, e1, e2, e3, e4⟩ := open_routeRow h2
        exact ⟨v', h1, ⟨a, l, q, b, o, R⟩, e1, e2, e3, e4⟩
      have hgs : gs = none := by
        obtain ⟨v', h1, _⟩ := each 0 hlp
        have := (World.cells?_some h1).2.2 0 (by omega)
        simpa [Addr.add] using World.cell?_spot this
      subst hgs
      haveI : Inhabited RowV := ⟨noRow⟩
      obtain ⟨P, hP⟩ := choose_lt (α := RowV) (n := l0) (p := fun i x => W.cell? ⟨gb, go + i, none⟩ = some (.slice x.a x.l x.q) ∧ x.In W) (fun i hi => by
        obtain ⟨v', h1, x, h2, h3⟩ := each i hi
        obtain ⟨_, _, hc⟩ := World.cells?_some h1
        rw [add_plain] at hc
        have g : W.cell? ⟨gb, go + i + 0, none⟩ = [v'][0]? := by rw [← add_plain]; exact hc 0 (by omega)
        exact ⟨x, by rw [← h2]; exact g, h3⟩)
      exact ⟨⟨_, gb, go, c0, fun r => (P r).a, fun r => (P r).q, fun r => (P r).b, fun r => (P r).o, l0, fun r => (P r).l, fun r => (P r).R⟩, rfl, ⟨fun _ => rfl, fun _ => World.block_lt_of_cell? _ _ (hP 0 hlp).1, fun r hr => (hP r hr).1, fun r hr h0 => (hP r hr).2.addr h0, fun r hr c hc => ((hP r hr).2.cell c hc).1, fun r hr c hc => ((hP r hr).2.cell c hc).2.1, fun r hr c hc => ((hP r hr).2.cell c hc).2.2.1, by show l0 ≤ maxLen; omega, fun r hr => (hP r hr).2.len⟩, fun r hr c hc => ((hP r hr).2.cell c hc).2.2.2⟩
end

end Go.Proofs.Ytjhkadffaephmab
