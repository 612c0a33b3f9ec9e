/-
  Our own texts, bundled: a claim holds few files.
-/
import Derived.Test.YtjhkadffaephmabGreatCutEnginePlaysDE
import Derived.Test.YtjhkadffaephmabGreatCutEnginePlaysAF
import Derived.Test.YtjhkadffaephmabGreatCutEnginePlaysDA
/-
  An engine as it came, out of its reading.
-/
namespace Go.Proofs.YtjhkadffaephmabGreat
set_option maxRecDepth 100000
open Go.RowKit Go.ChangeShapes Go.WideShapes Go.Joins Go.Deep

theorem Tryz.cells31 : Tryz.prog.cellsOf 31 = 2 := by kernel_rfl
theorem Tryz.cells59 : Tryz.prog.cellsOf 59 = 2 := by kernel_rfl
theorem Tryz.cells28 : Tryz.prog.cellsOf 28 = 1 := by kernel_rfl
theorem Tryz.cells69 : Tryz.prog.cellsOf 69 = 3 := by kernel_rfl
theorem Tryz.cells29 : Tryz.prog.cellsOf 29 = 1 := by kernel_rfl
theorem Tryz.cells9 : Tryz.prog.cellsOf 9 = 1 := by kernel_rfl

/-- No router. -/
def noRtr : RtrM := ⟨none, 0, 0, 0, 0, fun _ => 0, ⟨none, 0, 0, 0, fun _ => none, fun _ => 0, fun _ => 0, fun _ => 0, ⟨0, fun _ => 0, fun _ _ => 0⟩⟩⟩

section
variable {H : Type} {enc : TypeId × Value → H} {W : World}

theorem open_mail_cells {n : Nat} {cs : List Value} {y : DataW H × List MemPlace} (h : DataW.trod enc Tryz.prog W 0 (fun _ => true) true n 69 cs = some y) :
    ∃ m : Mail, cs = [.int .i64 m.F, .int .i64 m.T, .string ⟨m.b.toArray⟩] ∧ m.b.length ≤ maxLen := by
  obtain ⟨xs, n1, rfl, rfl, hlc, hlen, hfs⟩ := DataW.trod_struct Tryz.underlying69 h
  rw [Tryz.cells69] at hlc
  match cs, hlc, xs, hlen with
  | [c0, c1, c2], _, [y0, y1, y2], _ =>
    have k0 := hfs 0 _ rfl
    have k1 := hfs 1 _ rfl
    have k2 := hfs 2 _ rfl
    simp [Tryz.cells3, Tryz.cells9] at k0 k1 k2
    obtain ⟨a0, e0, _, _⟩ := DataW.trod_int Tryz.underlying3 k0
    obtain ⟨a1, e1, _, _⟩ := DataW.trod_int Tryz.underlying3 k1
    obtain ⟨s, e2, _, hl⟩ := DataW.trod_string Tryz.underlying9 k2
    simp at e0 e1 e2
    subst e0 e1 e2
    exact ⟨⟨a0, a1, s.data.toList⟩, by simp, by rw [Array.length_toList]; exact hl⟩

theorem open_rtr_cells {n : Nat} {cs : List Value} {y : DataW H × List MemPlace} (h : DataW.trod enc Tryz.prog W 0 (fun _ => true) true n 59 cs = some y) :
    ∃ r : RtrM, cs = [.slice r.ra r.rl r.rc, .slice r.T.ga r.T.t.len r.T.cap] ∧ r.In W.heap.size W := by
  obtain ⟨xs, n1, rfl, rfl, hlc, hlen, hfs⟩ := DataW.trod_struct Tryz.underlying59 h
  rw [Tryz.cells59] at hlc
  match cs, hlc, xs, hlen with
  | [c0, c1], _, [y0, y1], _ =>
    have k0 := hfs 0 _ rfl
    have k1 := hfs 1 _ rfl
    simp [Tryz.cells32, Tryz.cells22] at k0 k1
    obtain ⟨a, l, q, b, o, f, e0, hi, hlt, _, _⟩ := open_path_cells k0
    simp at e0
    subst e0
    obtain ⟨T, rfl, hT⟩ := open_mat k1
    exact ⟨⟨a, l, q, b, o, f, T⟩, rfl, hi, hlt, hT⟩

theorem open_bag {n : Nat} {v : Value} {y : DataW H × List MemPlace} (h : DataW.trod enc Tryz.prog W 0 (fun _ => true) true n 29 [v] = some y) :
    ∃ x : BagM, v = .slice x.ba x.bn x.bc ∧ x.In W.heap.size W ∧ x.bn ≤ x.bc := by
  rcases DataW.trod_slice Tryz.underlying29 h with ⟨hcs, _⟩ | ⟨a, len, cap, elems, rest, n2, hn, hcs, hy, _, hl, hm, hel, hat, hsp, _⟩
  · simp at hcs
    exact ⟨⟨none, 0, 0, 0, 0, fun _ => noMail⟩, hcs, ⟨fun h => absurd h (Nat.not_lt_zero _), fun h => absurd h (Nat.not_lt_zero _), fun _ h => absurd h (Nat.not_lt_zero _), fun _ h => absurd h (Nat.not_lt_zero _), fun _ h => absurd h (Nat.not_lt_zero _), Nat.zero_le _, fun _ h => absurd h (Nat.not_lt_zero _)⟩, Nat.zero_le _⟩
  · simp at hcs
    obtain ⟨gb, go, gs⟩ := a
    rcases Nat.eq_zero_or_pos len with hl0 | hlp
    · subst hl0
      exact ⟨⟨_, 0, cap, 0, 0, fun _ => noMail⟩, hcs, ⟨fun h => absurd h (Nat.not_lt_zero _), fun h => absurd h (Nat.not_lt_zero _), fun _ h => absurd h (Nat.not_lt_zero _), fun _ h => absurd h (Nat.not_lt_zero _), fun _ h => absurd h (Nat.not_lt_zero _), Nat.zero_le _, fun _ h => absurd h (Nat.not_lt_zero _)⟩, Nat.zero_le _⟩
    · have each : ∀ i, i < len → ∃ cs', W.cells? 0 ((⟨gb, go, gs⟩ : Addr).add (i * 3)) 3 = some cs' ∧ ∃ t : Mail, cs' = [.int .i64 t.F, .int .i64 t.T, .string ⟨t.b.toArray⟩] ∧ t.b.length ≤ maxLen := fun i hi => by
        have := hat i hi
        rw [Tryz.cells69, List.getElem?_eq_getElem (by omega)] at this
        obtain ⟨cs', h1, h2⟩ := Option.bind_eq_some_iff.1 this
        exact ⟨cs', h1, open_mail_cells h2⟩
      have hgs : gs = none := by
        obtain ⟨cs', h1, t, h2, _⟩ := each 0 hlp
        have := (World.cells?_some h1).2.2 0 (by omega)
        rw [h2] at this
        simpa [Addr.add] using World.cell?_spot this
      subst hgs
      haveI : Inhabited Mail := ⟨noMail⟩
      obtain ⟨P, hP⟩ := choose_lt (α := Mail) (n := len) (p := fun i p => W.cell? ⟨gb, go + i * 3, none⟩ = some (.int .i64 p.F) ∧ W.cell? ⟨gb, go + i * 3 + 1, none⟩ = some (.int .i64 p.T) ∧ W.cell? ⟨gb, go + i * 3 + 2, none⟩ = some (.string ⟨p.b.toArray⟩) ∧ p.b.length ≤ maxLen) (fun i hi => by
        obtain ⟨cs', h1, t, h2, h3⟩ := each i hi
        obtain ⟨_, _, hc⟩ := World.cells?_some h1
        rw [add_plain] at hc
        have g : ∀ j, j < 3 → W.cell? ⟨gb, go + i * 3 + j, none⟩ = [Value.int .i64 t.F, .int .i64 t.T, .string ⟨t.b.toArray⟩][j]? := fun j hj => by rw [← add_plain, ← h2]; exact hc j hj
        exact ⟨t, g 0 (by omega), g 1 (by omega), g 2 (by omega), h3⟩)
      exact ⟨⟨_, len, cap, gb, go, P⟩, hcs, ⟨fun _ => rfl, fun _ => World.block_lt_of_cell? _ _ (hP 0 hlp).1, fun i hi => (hP i hi).1, fun i hi => (hP i hi).2.1, fun i hi => (hP i hi).2.2.1, by show len ≤ _; omega, fun i hi => (hP i hi).2.2.2⟩, hl⟩

theorem open_rtrs {n : Nat} {v : Value} {y : DataW H × List MemPlace} (h : DataW.trod enc Tryz.prog W 0 (fun _ => true) true n 28 [v] = some y) :
    ∃ x : RtrsM, v = .slice x.ga x.gn x.gc ∧ x.In W.heap.size W ∧ x.gn ≤ x.gc := by
  rcases DataW.trod_slice Tryz.underlying28 h with ⟨hcs, _⟩ | ⟨a, len, cap, elems, rest, n2, hn, hcs, hy, _, hl, hm, hel, hat, hsp, _⟩
  · simp at hcs
    exact ⟨⟨none, 0, 0, 0, 0, fun _ => noRtr⟩, hcs, ⟨fun h => absurd h (Nat.not_lt_zero _), fun h => absurd h (Nat.not_lt_zero _), fun _ h => absurd h (Nat.not_lt_zero _), fun _ h => absurd h (Nat.not_lt_zero _), fun _ h => absurd h (Nat.not_lt_zero _), Nat.zero_le _⟩, Nat.zero_le _⟩
  · simp at hcs
    obtain ⟨gb, go, gs⟩ := a
    rcases Nat.eq_zero_or_pos len with hl0 | hlp
    · subst hl0
      exact ⟨⟨_, 0, cap, 0, 0, fun _ => noRtr⟩, hcs, ⟨fun h => absurd h (Nat.not_lt_zero _), fun h => absurd h (Nat.not_lt_zero _), fun _ h => absurd h (Nat.not_lt_zero _), fun _ h => absurd h (Nat.not_lt_zero _), fun _ h => absurd h (Nat.not_lt_zero _), Nat.zero_le _⟩, Nat.zero_le _⟩
    · have each : ∀ i, i < len → ∃ cs', W.cells? 0 ((⟨gb, go, gs⟩ : Addr).add (i * 2)) 2 = some cs' ∧ ∃ t : RtrM, cs' = [.slice t.ra t.rl t.rc, .slice t.T.ga t.T.t.len t.T.cap] ∧ t.In W.heap.size W := fun i hi => by
        have := hat i hi
        rw [Tryz.cells59, List.getElem?_eq_getElem (by omega)] at this
        obtain ⟨cs', h1, h2⟩ := Option.bind_eq_some_iff.1 this
        exact ⟨cs', h1, open_rtr_cells h2⟩
      have hgs : gs = none := by
        obtain ⟨cs', h1, t, h2, _⟩ := each 0 hlp
        have := (World.cells?_some h1).2.2 0 (by omega)
        rw [h2] at this
        simpa [Addr.add] using World.cell?_spot this
      subst hgs
      haveI : Inhabited RtrM := ⟨noRtr⟩
      obtain ⟨P, hP⟩ := choose_lt (α := RtrM) (n := len) (p := fun i p => W.cell? ⟨gb, go + i * 2, none⟩ = some (.slice p.ra p.rl p.rc) ∧ W.cell? ⟨gb, go + i * 2 + 1, none⟩ = some (.slice p.T.ga p.T.t.len p.T.cap) ∧ p.In W.heap.size W) (fun i hi => by
        obtain ⟨cs', h1, t, h2, h3⟩ := each i hi
        obtain ⟨_, _, hc⟩ := World.cells?_some h1
        rw [add_plain] at hc
        have g : ∀ j, j < 2 → W.cell? ⟨gb, go + i * 2 + j, none⟩ = [Value.slice t.ra t.rl t.rc, .slice t.T.ga t.T.t.len t.T.cap][j]? := fun j hj => by rw [← add_plain, ← h2]; exact hc j hj
        exact ⟨t, g 0 (by omega), g 1 (by omega), h3⟩)
      exact ⟨⟨_, len, cap, gb, go, P⟩, hcs, ⟨fun _ => rfl, fun _ => World.block_lt_of_cell? _ _ (hP 0 hlp).1, fun i hi => (hP i hi).1, fun i hi => (hP i hi).2.1, fun i hi => (hP i hi).2.2, by show len ≤ _; omega⟩, hl⟩

theorem open_engine {b0 : Nat} {v : Value} {d : DataW H} {p : List MemPlace} (hv : Value.okWide Tryz.prog W .any b0 31 v) (h : DataW.Trod enc Tryz.prog W 0 (fun _ => true) true 31 v d p) :
    ∃ x : EngM, v = x.val ∧ x.In W.heap.size W ∧ x.bag.bn ≤ x.bag.bc := by
  obtain ⟨cs, rfl, hsz⟩ := okWide_struct Tryz.underlying31 hv
  obtain ⟨fuel, hf⟩ := h
  obtain ⟨xs, n1, _, _, hlc, hlen, hfs⟩ := DataW.trod_struct Tryz.underlying31 hf
  have hcl : cs.toList.length = 2 := by rw [Tryz.cells31] at hlc; simpa [Value.cells] using hlc
  obtain ⟨l⟩ := cs
  match l, hcl, xs, hlen with
  | [c0, c1], _, [y0, y1], _ =>
    have k0 := hfs 0 _ rfl
    have k1 := hfs 1 _ rfl
    simp [Value.cells, Tryz.cells28, Tryz.cells29] at k0 k1
    obtain ⟨rs, rfl, hr, _⟩ := open_rtrs k0
    obtain ⟨bag, rfl, hb, hc⟩ := open_bag k1
    exact ⟨⟨rs, bag⟩, rfl, ⟨hr, hb⟩, hc⟩
end

end Go.Proofs.YtjhkadffaephmabGreat

/-
  Events as they came, out of their readings.
-/
namespace Go.Proofs.YtjhkadffaephmabGreat
set_option maxRecDepth 100000
open Go.RowKit Go.ChangeShapes Go.WideShapes Go.Joins Go.Deep

theorem Tryz.cells34 : Tryz.prog.cellsOf 34 = 5 := by kernel_rfl

/-- No event. -/
def noEv : EvM := ⟨0, 0, 0, 0, none, 0, 0, 0, 0, fun _ => 0⟩

section
variable {H : Type} {enc : TypeId × Value → H} {W : World}

theorem open_ev_cells {n : Nat} {cs : List Value} {y : DataW H × List MemPlace} (h : DataW.trod enc Tryz.prog W 0 (fun _ => true) true n 34 cs = some y) :
    ∃ v : EvM, cs = [.int .i64 v.kind, .int .i64 v.loc, .int .i64 v.b, .int .i64 v.c, .slice v.ra v.rl v.rc] ∧ v.In W.heap.size W := by
  obtain ⟨xs, n1, rfl, rfl, hlc, hlen, hfs⟩ := DataW.trod_struct Tryz.underlying34 h
  rw [Tryz.cells34] at hlc
  match cs, hlc, xs, hlen with
  | [c0, c1, c2, c3, c4], _, [y0, y1, y2, y3, y4], _ =>
    have k0 := hfs 0 _ rfl
    have k1 := hfs 1 _ rfl
    have k2 := hfs 2 _ rfl
    have k3 := hfs 3 _ rfl
    have k4 := hfs 4 _ rfl
    simp [Tryz.cells3, Tryz.cells32] at k0 k1 k2 k3 k4
    obtain ⟨a0, e0, _, _⟩ := DataW.trod_int Tryz.underlying3 k0
    obtain ⟨a1, e1, _, _⟩ := DataW.trod_int Tryz.underlying3 k1
    obtain ⟨a2, e2, _, _⟩ := DataW.trod_int Tryz.underlying3 k2
    obtain ⟨a3, e3, _, _⟩ := DataW.trod_int Tryz.underlying3 k3
    obtain ⟨a, l, q, b, o, f, e4, hi, hlt, _, _⟩ := open_path_cells k4
    simp at e0 e1 e2 e3 e4
    subst e0 e1 e2 e3 e4
    exact ⟨⟨a0, a1, a2, a3, a, l, q, b, o, f⟩, rfl, hi, hlt, hi.len⟩

theorem open_evs {n : Nat} {v : Value} {y : DataW H × List MemPlace} (h : DataW.trod enc Tryz.prog W 0 (fun _ => true) true n 45 [v] = some y) :
    ∃ x : EvsM, v = .slice x.ea x.en x.ec ∧ x.In W.heap.size W ∧ x.en ≤ x.ec := by
  rcases DataW.trod_slice Tryz.underlying45 h with ⟨hcs, _⟩ | ⟨a, len, cap, elems, rest, n2, hn, hcs, hy, _, hl, hm, hel, hat, hsp, _⟩
  · simp at hcs
    exact ⟨⟨none, 0, 0, 0, 0, fun _ => noEv⟩, hcs, ⟨fun h => absurd h (Nat.not_lt_zero _), fun h => absurd h (Nat.not_lt_zero _), fun _ h => absurd h (Nat.not_lt_zero _), fun _ h => absurd h (Nat.not_lt_zero _), fun _ h => absurd h (Nat.not_lt_zero _), fun _ h => absurd h (Nat.not_lt_zero _), fun _ h => absurd h (Nat.not_lt_zero _), fun _ h => absurd h (Nat.not_lt_zero _), Nat.zero_le _⟩, Nat.zero_le _⟩
  · simp at hcs
    obtain ⟨gb, go, gs⟩ := a
    rcases Nat.eq_zero_or_pos len with hl0 | hlp
    · subst hl0
      exact ⟨⟨_, 0, cap, 0, 0, fun _ => noEv⟩, hcs, ⟨fun h => absurd h (Nat.not_lt_zero _), fun h => absurd h (Nat.not_lt_zero _), fun _ h => absurd h (Nat.not_lt_zero _), fun _ h => absurd h (Nat.not_lt_zero _), fun _ h => absurd h (Nat.not_lt_zero _), fun _ h => absurd h (Nat.not_lt_zero _), fun _ h => absurd h (Nat.not_lt_zero _), fun _ h => absurd h (Nat.not_lt_zero _), Nat.zero_le _⟩, Nat.zero_le _⟩
    · have each : ∀ i, i < len → ∃ cs', W.cells? 0 ((⟨gb, go, gs⟩ : Addr).add (i * 5)) 5 = some cs' ∧ ∃ t : EvM, cs' = [.int .i64 t.kind, .int .i64 t.loc, .int .i64 t.b, .int .i64 t.c, .slice t.ra t.rl t.rc] ∧ t.In W.heap.size W := fun i hi => by
        have := hat i hi
        rw [Tryz.cells34, List.getElem?_eq_getElem (by omega)] at this
        obtain ⟨cs', h1, h2⟩ := Option.bind_eq_some_iff.1 this
        exact ⟨cs', h1, open_ev_cells h2⟩
      have hgs : gs = none := by
        obtain ⟨cs', h1, t, h2, _⟩ := each 0 hlp
        have := (World.cells?_some h1).2.2 0 (by omega)
        rw [h2] at this
        simpa [Addr.add] using World.cell?_spot this
      subst hgs
      haveI : Inhabited EvM := ⟨noEv⟩
      obtain ⟨P, hP⟩ := choose_lt (α := EvM) (n := len) (p := fun i p => W.cell? ⟨gb, go + i * 5, none⟩ = some (.int .i64 p.kind) ∧ W.cell? ⟨gb, go + i * 5 + 1, none⟩ = some (.int .i64 p.loc) ∧ W.cell? ⟨gb, go + i * 5 + 2, none⟩ = some (.int .i64 p.b) ∧ W.cell? ⟨gb, go + i * 5 + 3, none⟩ = some (.int .i64 p.c) ∧ W.cell? ⟨gb, go + i * 5 + 4, none⟩ = some (.slice p.ra p.rl p.rc) ∧ p.In W.heap.size W) (fun i hi => by
        obtain ⟨cs', h1, t, h2, h3⟩ := each i hi
        obtain ⟨_, _, hc⟩ := World.cells?_some h1
        rw [add_plain] at hc
        have g : ∀ j, j < 5 → W.cell? ⟨gb, go + i * 5 + j, none⟩ = [Value.int .i64 t.kind, .int .i64 t.loc, .int .i64 t.b, .int .i64 t.c, .slice t.ra t.rl t.rc][j]? := fun j hj => by rw [← add_plain, ← h2]; exact hc j hj
        exact ⟨t, g 0 (by omega), g 1 (by omega), g 2 (by omega), g 3 (by omega), g 4 (by omega), h3⟩)
      exact ⟨⟨_, len, cap, gb, go, P⟩, hcs, ⟨fun _ => rfl, fun _ => World.block_lt_of_cell? _ _ (hP 0 hlp).1, fun i hi => (hP i hi).1, fun i hi => (hP i hi).2.1, fun i hi => (hP i hi).2.2.1, fun i hi => (hP i hi).2.2.2.1, fun i hi => (hP i hi).2.2.2.2.1, fun i hi => (hP i hi).2.2.2.2.2, by show len ≤ _; omega⟩, hl⟩

theorem open_events {b0 : Nat} {v : Value} {d : DataW H} {p : List MemPlace} (hv : Value.okWide Tryz.prog W .any b0 45 v) (h : DataW.Trod enc Tryz.prog W 0 (fun _ => true) true 45 v d p) :
    ∃ x : EvsM, v = .slice x.ea x.en x.ec ∧ x.In W.heap.size W := by
  obtain ⟨a0, l0, c0, rfl⟩ := okWide_slice Tryz.underlying45 hv
  obtain ⟨fuel, hf⟩ := h
  obtain ⟨x, h1, h2, _⟩ := open_evs hf
  exact ⟨x, h1, h2⟩
end

end Go.Proofs.YtjhkadffaephmabGreat
