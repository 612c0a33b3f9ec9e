/-
  Our own texts, bundled: a claim holds few files.
-/
import Derived.Test.YtjhkadffaephmabGreatCutEngineStepsAE
import Derived.Test.YtjhkadffaephmabGreatCutEngineStepsAD
import Derived.Test.YtjhkadffaephmabGreatCutEngineStepsAA
import Derived.ProofKit
import Derived.OpenShut
import Derived.Below
import Derived.Lib.SmallJoins
import Derived.Deep.Matrix
/-
  Engines: plain mathematics. What events do; calm; strict algebras settle behind it.
-/
namespace Go.Proofs.YtjhkadffaephmabGreat

structure Mail where
  F : Int
  T : Int
  b : List UInt8

/-- An engine that passes Check, by its numbers: routes, who told whom, what, and what is on its way. -/
structure Eng where
  R : Nat → Nat → Int
  told : Nat → Nat → Bool
  D : Nat → Nat → Nat → Int
  bag : List Mail

/-- An event by its numbers. -/
structure Ev where
  kind : Int
  loc : Int
  b : Int
  c : Int
  n : Nat
  R : Nat → Int

def Eng.has (n : Net) (e : Eng) (i k j : Nat) : Int := if e.told i k = true then e.D i k j else n.a.size - 1
def Eng.look (n : Net) (e : Eng) (i : Nat) : Eng := { e with R := fun r j => if r = i then n.route i j (fun k => e.has n i k j) else e.R r j }
def Net.hearers (n : Net) (i : Nat) : List Nat := (List.range n.N).filter fun k => decide (0 ≤ n.edge k i)
def Eng.mail (n : Net) (e : Eng) (i k : Nat) : Mail := ⟨i, k, (Pkt.mk i k n.N (e.R i)).text⟩
def Eng.tick (n : Net) (e : Eng) (i : Nat) : Eng := { e.look n i with bag := e.bag ++ (n.hearers i).map fun k => (e.look n i).mail n i k }
def Eng.without (e : Eng) (k : Nat) : Eng := { e with bag := e.bag.eraseIdx k }
def Eng.tell (e : Eng) (i k : Nat) (f : Nat → Int) : Eng :=
  { e with told := fun a b => if a = i ∧ b = k then true else e.told a b, D := fun a b => if a = i ∧ b = k then f else e.D a b }
def Net.row (n : Net) (l : Nat) (f : Nat → Int) : Int := if (l : Int) ≠ n.nodes then 1 else if ((List.range l).all fun j => decide (0 ≤ f j) && decide (f j < n.a.size)) = false then 5 else 0
/-- Is it what a neighbour may have told? -/
def Net.heeds (n : Net) (m : Mail) : Prop := readErr m.b = 0 ∧ (packet m.b).F = m.F ∧ (packet m.b).T = m.T ∧ n.row (packet m.b).n (packet m.b).R = 0 ∧ 0 ≤ n.edge m.T m.F
abbrev Net.heedsDec (n : Net) (m : Mail) : Decidable (n.heeds m) := by unfold Net.heeds; exact inferInstance
def Eng.take (n : Net) (e : Eng) (m : Mail) : Eng := @ite Eng (n.heeds m) (n.heedsDec m) ((e.tell m.T.toNat m.F.toNat (packet m.b).R).look n m.T.toNat) e
def noMail : Mail := ⟨0, 0, []⟩
def Eng.deliver (n : Net) (e : Eng) (k : Nat) : Eng := (e.without k).take n (e.bag.getD k noMail)
def Eng.twice (e : Eng) (k : Nat) : Eng := { e with bag := e.bag ++ [e.bag.getD k noMail] }
def Mail.spoil (m : Mail) (i : Nat) (c : UInt8) : Mail := { m with b := m.b.set i (m.b.getD i 0 ^^^ c) }
def Eng.spoil (e : Eng) (k i : Nat) (c : UInt8) : Eng := { e with bag := e.bag.set k ((e.bag.getD k noMail).spoil i c) }
def Eng.expire (n : Net) (e : Eng) (i k : Nat) : Eng := Eng.look n { e with told := fun a b => if a = i ∧ b = k then false else e.told a b } i
def Eng.restart (e : Eng) (i : Nat) (f : Nat → Int) : Eng :=
  { e with R := fun r => if r = i then f else e.R r, told := fun a b => if a = i then false else e.told a b }

def Eng.stepErr (n : Net) (e : Eng) (v : Ev) : Int :=
  if v.kind < 1 ∨ 7 < v.kind then 7
  else if 2 ≤ v.kind ∧ v.kind ≤ 5 then
    if v.loc < 0 ∨ (e.bag.length : Int) ≤ v.loc then 5
    else if v.kind = 3 then (if 120 ≤ e.bag.length then 2 else 0)
    else if v.kind = 5 then (if (v.b < 0 ∨ ((e.bag.getD v.loc.toNat noMail).b.length : Int) ≤ v.b) ∨ (v.c < 1 ∨ 255 < v.c) then 3 else 0)
    else 0
  else if v.loc < 0 ∨ n.nodes ≤ v.loc then 5
  else if v.kind = 1 then (if 120 < e.bag.length + (n.hearers v.loc.toNat).length then 2 else 0)
  else if v.kind = 6 then (if v.b < 0 ∨ n.nodes ≤ v.b then 5 else 0)
  else n.row v.n v.R
def Eng.step (n : Net) (e : Eng) (v : Ev) : Eng :=
  if v.kind = 1 then e.tick n v.loc.toNat
  else if v.kind = 2 then e.deliver n v.loc.toNat
  else if v.kind = 3 then e.twice v.loc.toNat
  else if v.kind = 4 then e.without v.loc.toNat
  else if v.kind = 5 then e.spoil v.loc.toNat v.b.toNat (u8 v.c)
  else if v.kind = 6 then e.expire n v.loc.toNat v.b.toNat
  else e.restart v.loc.toNat v.R
theorem Net.row_zero {n : Net} {l : Nat} {f : Nat → Int} : n.row l f = 0 ↔ (l : Int) = n.nodes ∧ ∀ j, j < l → 0 ≤ f j ∧ f j < n.a.size := by
  unfold Net.row
  split
  · next h => exact ⟨fun e => absurd e (by decide), fun e => absurd e.1 h⟩
  · next h =>
    have h' : (l : Int) = n.nodes := by omega
    split
    · next h2 =>
      refine ⟨fun e => absurd e (by decide), fun e => ?_⟩
      have : ((List.range l).all fun j => decide (0 ≤ f j) && decide (f j < n.a.size)) = true := by simp; exact e.2
      rw [this] at h2; cases h2
    · next h2 =>
      refine ⟨fun _ => ⟨h', ?_⟩, fun _ => rfl⟩
      simpa using h2

/-- All that an engine holds are routes, and what is on its way is between nodes. -/
structure Eng.Fit (n : Net) (e : Eng) : Prop where
  R : n.State e.R
  D : ∀ i k j, i < n.N → k < n.N → j < n.N → e.told i k = true → 0 ≤ e.D i k j ∧ e.D i k j < n.a.size
  many : e.bag.length ≤ 120
  mail : ∀ m ∈ e.bag, (0 ≤ m.F ∧ m.F < n.nodes) ∧ (0 ≤ m.T ∧ m.T < n.nodes) ∧ m.b.length ≤ 60

section
variable {n : Net}

theorem Eng.Fit.has (g : n.Good) {e : Eng} (h : e.Fit n) {i j : Nat} (hi : i < n.N) (hj : j < n.N) : n.Routes (fun k => e.has n i k j) := fun k hk => by
  have lo := g.law.good.lo
  show 0 ≤ e.has n i k j ∧ e.has n i k j < n.a.size
  unfold Eng.has
  split
  · next ht => exact h.D i k j hi hk hj ht
  · omega
theorem Eng.Fit.look (g : n.Good) {e : Eng} (h : e.Fit n) {i : Nat} (hi : i < n.N) : (e.look n i).Fit n :=
  ⟨fun r j hr hj => by
    show 0 ≤ (if r = i then _ else _) ∧ (if r = i then _ else _) < _
    split
    · exact n.route_in g (h.has g hi hj) i j
    · exact h.R r j hr hj, h.D, h.many, h.mail⟩
theorem Eng.Fit.without {e : Eng} (h : e.Fit n) (k : Nat) : (e.without k).Fit n :=
  ⟨h.R, h.D, by have := h.many; have := List.length_eraseIdx_le e.bag k; show (e.bag.eraseIdx k).length ≤ 120; omega, fun m hm => h.mail m (List.mem_of_mem_eraseIdx hm)⟩
theorem Net.nodes_N (g : n.Good) : (n.N : Int) = n.nodes := by
  have := g.lo
  unfold Net.N; omega
theorem Eng.Fit.tell {e : Eng} (h : e.Fit n) {i k : Nat} {f : Nat → Int} (hf : ∀ j, j < n.N → 0 ≤ f j ∧ f j < n.a.size) : (e.tell i k f).Fit n :=
  ⟨h.R, fun a b j ha hb hj ht => by
    show 0 ≤ (if a = i ∧ b = k then f else e.D a b) j ∧ (if a = i ∧ b = k then f else e.D a b) j < _
    by_cases he : a = i ∧ b = k
    · rw [if_pos he]; exact hf j hj
    · rw [if_neg he]
      have ht' : (if a = i ∧ b = k then true else e.told a b) = true := ht
      rw [if_neg he] at ht'
      exact h.D a b j ha hb hj ht', h.many, h.mail⟩
theorem Net.edge_node (g : n.Good) {i k : Int} (h : 0 ≤ n.edge i k) : (0 ≤ i ∧ i < n.nodes) ∧ (0 ≤ k ∧ k < n.nodes) := by
  obtain ⟨l, hl, e1, e2, _⟩ := Net.link_edge h
  have := g.link l hl
  omega
theorem Eng.Fit.take (g : n.Good) {e : Eng} (h : e.Fit n) (m : Mail) : (e.take n m).Fit n := by
  unfold Eng.take
  split
  · next hm =>
    have hn := n.nodes_N g
    have hr := Net.row_zero.1 hm.2.2.2.1
    have he := n.edge_node g hm.2.2.2.2
    exact (h.tell fun j hj => hr.2 j (by omega)).look g (by omega)
  · exact h
theorem Eng.Fit.deliver (g : n.Good) {e : Eng} (h : e.Fit n) (k : Nat) : (e.deliver n k).Fit n := (h.without k).take g _
theorem Net.hearers_le (i : Nat) : (n.hearers i).length ≤ n.N := by
  have := List.length_filter_le (fun k : Nat => decide (0 ≤ n.edge k i)) (List.range n.N)
  simpa [Net.hearers] using this
theorem Net.mem_hearers {i k : Nat} : k ∈ n.hearers i ↔ k < n.N ∧ 0 ≤ n.edge k i := by simp [Net.hearers]
theorem Eng.mail_err (g : n.Good) {e : Eng} (h : e.Fit n) {i k : Nat} (hi : i < n.N) (hk : k < n.N) : (Pkt.mk i k n.N (e.R i)).err = 0 := by
  have hn := n.nodes_N g
  have h6 := g.hi
  have h24 := g.law.good.hi
  apply Pkt.err_of
  · unfold Pkt.inRange inB
    simp only [Bool.and_eq_true, decide_eq_true_eq]
    exact ⟨⟨⟨by omega, by omega⟩, ⟨by omega, by omega⟩⟩, Pkt.routesIn_iff.2 fun j hj => by have := h.R i j hi hj; show 0 ≤ e.R i j ∧ e.R i j ≤ 250; omega⟩
  · show n.N + 6 ≤ 60
    omega
theorem Eng.mail_text (g : n.Good) {e : Eng} (h : e.Fit n) {i k : Nat} (hi : i < n.N) (hk : k < n.N) : (e.mail n i k).b = (Pkt.mk i k n.N (e.R i)).bytes := by
  show (Pkt.mk i k n.N (e.R i)).text = _
  unfold Pkt.text; rw [if_pos (Eng.mail_err g h hi hk)]
theorem Eng.Fit.tick (g : n.Good) {e : Eng} (h : e.Fit n) {i : Nat} (hi : i < n.N) (hb : e.bag.length + (n.hearers i).length ≤ 120) : (e.tick n i).Fit n := by
  have hl := h.look g hi
  have hn := n.nodes_N g
  refine ⟨hl.R, hl.D, ?_, ?_⟩
  · show (e.bag ++ (n.hearers i).map fun k => (e.look n i).mail n i k).length ≤ 120
    simp; exact hb
  · intro m hm
    have hm' : m ∈ e.bag ++ (n.hearers i).map fun k => (e.look n i).mail n i k := hm
    rcases List.mem_append.1 hm' with h1 | h1
    · exact h.mail m h1
    · obtain ⟨k, hk, rfl⟩ := List.mem_map.1 h1
      have hk' := Net.mem_hearers.1 hk
      refine ⟨⟨by show 0 ≤ (i : Int); omega, by show (i : Int) < _; omega⟩, ⟨by show 0 ≤ (k : Int); omega, by show (k : Int) < _; omega⟩, ?_⟩
      rw [Eng.mail_text g hl hi hk'.1, Pkt.bytes_length]
      show n.N + 6 ≤ 60
      have := g.hi
      omega
theorem getD_mem {α : Type} {l : List α} {k : Nat} {d : α} (h : k < l.length) : l.getD k d ∈ l := by
  rw [List.getD_eq_getElem?_getD, List.getElem?_eq_getElem h]
  exact List.getElem_mem h
theorem Eng.Fit.step (g : n.Good) {e : Eng} (h : e.Fit n) {v : Ev} (hv : e.stepErr n v = 0) : (e.step n v).Fit n := by
  have hn := n.nodes_N g
  unfold Eng.stepErr at hv
  split at hv
  · cases hv
  · next hk =>
    unfold Eng.step
    split at hv
    · next hm =>
      split at hv
      · cases hv
      · next hl =>
        have hloc : v.loc.toNat < e.bag.length := by omega
        rw [if_neg (by omega)]
        split
        · exact h.deliver g _
        · split
          · next h3 =>
            rw [if_pos h3] at hv
            split at hv
            · cases hv
            · refine ⟨h.R, h.D, ?_, ?_⟩
              · show (e.bag ++ [_]).length ≤ 120
                simp; omega
              · intro m hm'
                rcases List.mem_append.1 (show m ∈ e.bag ++ [_] from hm') with h1 | h1
                · exact h.mail m h1
                · rw [List.mem_singleton.1 h1]; exact h.mail _ (getD_mem hloc)
          · next h3 =>
            rw [if_neg h3] at hv
            split
            · exact h.without _
            · have h5 : v.kind = 5 := by omega
              rw [if_pos h5]
              refine ⟨h.R, h.D, ?_, ?_⟩
              · show (e.bag.set _ _).length ≤ 120
                rw [List.length_set]; exact h.many
              · intro m hm'
                rcases List.mem_or_eq_of_mem_set (show m ∈ e.bag.set _ _ from hm') with h1 | h1
                · exact h.mail m h1
                · subst h1
                  have := h.mail _ (getD_mem (d := noMail) hloc)
                  refine ⟨this.1, this.2.1, ?_⟩
                  show (List.set _ _ _).length ≤ 60
                  rw [List.length_set]; exact this.2.2
    · next hm =>
      split at hv
      · cases hv
      · next hl =>
        have hloc : v.loc.toNat < n.N := by omega
        split
        · next h1 =>
          rw [if_pos h1] at hv
          split at hv
          · cases hv
          · exact h.tick g hloc (by omega)
        · next h1 =>
          rw [if_neg h1] at hv
          rw [if_neg (by omega), if_neg (by omega), if_neg (by omega), if_neg (by omega)]
          split
          · next h6 =>
            refine Eng.Fit.look g (e := { e with told := fun a b => if a = v.loc.toNat ∧ b = v.b.toNat then false else e.told a b }) ⟨h.R, fun a b j ha hb hj ht => ?_, h.many, h.mail⟩ hloc
            have ht' : (if a = v.loc.toNat ∧ b = v.b.toNat then false else e.told a b) = true := ht
            split at ht'
            · cases ht'
            · exact h.D a b j ha hb hj ht'
          · next h6 =>
            rw [if_neg h6] at hv
            have hr := Net.row_zero.1 hv
            refine ⟨fun r j hr' hj => ?_, fun a b j ha hb hj ht => ?_, h.many, h.mail⟩
            · show 0 ≤ (if r = v.loc.toNat then v.R else e.R r) j ∧ (if r = v.loc.toNat then v.R else e.R r) j < _
              split
              · exact hr.2 j (by omega)
              · exact h.R r j hr' hj
            · have ht' : (if a = v.loc.toNat then false else e.told a b) = true := ht
              split at ht'
              · cases ht'
              · exact h.D a b j ha hb hj ht'
end

end Go.Proofs.YtjhkadffaephmabGreat

/-
  Engines in memory.
-/
namespace Go.Proofs.YtjhkadffaephmabGreat
set_option maxRecDepth 100000
open Go.RowKit

/-- A router in memory. -/
structure RtrM where
  ra : Option Addr
  rl : Nat
  rc : Nat
  rb : Nat
  ro : Nat
  R : Nat → Int
  T : Mat
def RtrM.cells (r : RtrM) : Array Value := #[.slice r.ra r.rl r.rc, r.T.val]
def RtrM.val (r : RtrM) : Value := .agg r.cells
structure RtrM.In (r : RtrM) (N : Nat) (w : World) : Prop where
  ints : Ints r.ra r.rl r.rb r.ro r.R w
  lt : 0 < r.rl → r.rb < N
  T : r.T.In N w
theorem RtrM.In.below {r : RtrM} {N k : Nat} {w w' : World} (h : r.In N w) (hb : Below k w w') (hk : N ≤ k) : r.In N w' :=
  ⟨h.ints.below hb (fun h0 => Nat.lt_of_lt_of_le (h.lt h0) hk), h.lt, h.T.below hb hk⟩
theorem RtrM.In.mono {r : RtrM} {N k : Nat} {w : World} (h : r.In N w) (hk : N ≤ k) : r.In k w := ⟨h.ints, fun h0 => Nat.lt_of_lt_of_le (h.lt h0) hk, h.T.mono hk⟩

/-- A list of routers in memory. -/
structure RtrsM where
  ga : Option Addr
  gn : Nat
  gc : Nat
  gb : Nat
  go : Nat
  r : Nat → RtrM
def RtrsM.val (x : RtrsM) : Value := .slice x.ga x.gn x.gc
structure RtrsM.In (x : RtrsM) (N : Nat) (w : World) : Prop where
  ga : 0 < x.gn → x.ga = some ⟨x.gb, x.go, none⟩
  gb : 0 < x.gn → x.gb < N
  c0 : ∀ i, i < x.gn → w.cell? ⟨x.gb, x.go + i * 2, none⟩ = some (.slice (x.r i).ra (x.r i).rl (x.r i).rc)
  c1 : ∀ i, i < x.gn → w.cell? ⟨x.gb, x.go + i * 2 + 1, none⟩ = some (.slice (x.r i).T.ga (x.r i).T.t.len (x.r i).T.cap)
  r : ∀ i, i < x.gn → (x.r i).In N w
  len : x.gn ≤ maxLen
theorem RtrsM.In.below {x : RtrsM} {N k : Nat} {w w' : World} (h : x.In N w) (hb : Below k w w') (hk : N ≤ k) : x.In N w' where
  ga := h.ga
  gb := h.gb
  c0 := fun i hi => by rw [hb.cell (p := ⟨x.gb, x.go + i * 2, none⟩) (Nat.lt_of_lt_of_le (h.gb (by omega)) hk)]; exact h.c0 i hi
  c1 := fun i hi => by rw [hb.cell (p := ⟨x.gb, x.go + i * 2 + 1, none⟩) (Nat.lt_of_lt_of_le (h.gb (by omega)) hk)]; exact h.c1 i hi
  r := fun i hi => (h.r i hi).below hb hk
  len := h.len
theorem RtrsM.In.mono {x : RtrsM} {N k : Nat} {w : World} (h : x.In N w) (hk : N ≤ k) : x.In k w :=
  ⟨h.ga, fun h0 => Nat.lt_of_lt_of_le (h.gb h0) hk, h.c0, h.c1, fun i hi => (h.r i hi).mono hk, h.len⟩
theorem RtrsM.In.grown {x : RtrsM} {w w' : World} (h : x.In w.heap.size w) (hb : Below w.heap.size w w') : x.In w'.heap.size w' := (h.below hb (Nat.le_refl _)).mono hb.size

/-- A list of mail in memory. -/
structure BagM where
  ba : Option Addr
  bn : Nat
  bc : Nat
  bb : Nat
  bo : Nat
  M : Nat → Mail
def BagM.val (x : BagM) : Value := .slice x.ba x.bn x.bc
structure BagM.In (x : BagM) (N : Nat) (w : World) : Prop where
  ba : 0 < x.bn → x.ba = some ⟨x.bb, x.bo, none⟩
  bb : 0 < x.bn → x.bb < N
  c0 : ∀ i, i < x.bn → w.cell? ⟨x.bb, x.bo + i * 3, none⟩ = some (.int .i64 (x.M i).F)
  c1 : ∀ i, i < x.bn → w.cell? ⟨x.bb, x.bo + i * 3 + 1, none⟩ = some (.int .i64 (x.M i).T)
  c2 : ∀ i, i < x.bn → w.cell? ⟨x.bb, x.bo + i * 3 + 2, none⟩ = some (.string ⟨(x.M i).b.toArray⟩)
  len : x.bn ≤ maxLen
  lens : ∀ i, i < x.bn → (x.M i).b.length ≤ maxLen
theorem BagM.In.below {x : BagM} {N k : Nat} {w w' : World} (h : x.In N w) (hb : Below k w w') (hk : N ≤ k) : x.In N w' where
  ba := h.ba
  bb := h.bb
  c0 := fun i hi => by rw [hb.cell (p := ⟨x.bb, x.bo + i * 3, none⟩) (Nat.lt_of_lt_of_le (h.bb (by omega)) hk)]; exact h.c0 i hi
  c1 := fun i hi => by rw [hb.cell (p := ⟨x.bb, x.bo + i * 3 + 1, none⟩) (Nat.lt_of_lt_of_le (h.bb (by omega)) hk)]; exact h.c1 i hi
  c2 := fun i hi => by rw [hb.cell (p := ⟨x.bb, x.bo + i * 3 + 2, none⟩) (Nat.lt_of_lt_of_le (h.bb (by omega)) hk)]; exact h.c2 i hi
  len := h.len
  lens := h.lens
theorem BagM.In.mono {x : BagM} {N k : Nat} {w : World} (h : x.In N w) (hk : N ≤ k) : x.In k w := ⟨h.ba, fun h0 => Nat.lt_of_lt_of_le (h.bb h0) hk, h.c0, h.c1, h.c2, h.len, h.lens⟩
theorem BagM.In.grown {x : BagM} {w w' : World} (h : x.In w.heap.size w) (hb : Below w.heap.size w w') : x.In w'.heap.size w' := (h.below hb (Nat.le_refl _)).mono hb.size

/-- An engine in memory. -/
structure EngM where
  rs : RtrsM
  bag : BagM
def EngM.cells (e : EngM) : Array Value := #[.slice e.rs.ga e.rs.gn e.rs.gc, .slice e.bag.ba e.bag.bn e.bag.bc]
def EngM.val (e : EngM) : Value := .agg e.cells
structure EngM.In (e : EngM) (N : Nat) (w : World) : Prop where
  rs : e.rs.In N w
  bag : e.bag.In N w
theorem EngM.In.below {e : EngM} {N k : Nat} {w w' : World} (h : e.In N w) (hb : Below k w w') (hk : N ≤ k) : e.In N w' := ⟨h.rs.below hb hk, h.bag.below hb hk⟩
theorem EngM.In.grown {e : EngM} {w w' : World} (h : e.In w.heap.size w) (hb : Below w.heap.size w w') : e.In w'.heap.size w' := ⟨h.rs.grown hb, h.bag.grown hb⟩

/-- Has a router what is told of each node? -/
def RtrM.shaped (r : RtrM) (n : Int) : Bool := ((r.rl : Int) == n) && ((r.T.t.len : Int) == n) && (List.range r.T.t.len).all fun k => !((r.T.t.L k : Int) != 0 && (r.T.t.L k : Int) != n)
/-- Are all that it holds routes? -/
def RtrM.sound (r : RtrM) (s : Int) : Bool := rowIn r.rl r.R s && (List.range r.T.t.len).all fun k => rowIn (r.T.t.L k) (r.T.t.Z k) s
def RtrsM.err (x : RtrsM) (n : Net) : Int :=
  if (x.gn : Int) ≠ n.nodes ∨ ((List.range x.gn).any fun i => !(x.r i).shaped n.nodes) = true then 1
  else if ((List.range x.gn).any fun i => !(x.r i).sound n.a.size) = true then 5 else 0
def BagM.err (x : BagM) (n : Net) : Int :=
  if 120 < x.bn then 2
  else if ((List.range x.bn).any fun i => !(decide (0 ≤ (x.M i).F) && decide ((x.M i).F < n.nodes)) || !(decide (0 ≤ (x.M i).T) && decide ((x.M i).T < n.nodes))) = true then 5
  else if ((List.range x.bn).any fun i => decide (60 < (x.M i).b.length)) = true then 2 else 0
def EngM.err (e : EngM) (n : Net) : Int := if n.check ≠ 0 then n.check else if e.rs.err n ≠ 0 then e.rs.err n else e.bag.err n
/-- What an engine that passes Check is. -/
def EngM.eng (e : EngM) : Eng := ⟨fun i => (e.rs.r i).R, fun i k => decide ((e.rs.r i).T.t.L k ≠ 0), fun i k => (e.rs.r i).T.t.Z k, (List.range e.bag.bn).map e.bag.M⟩

end Go.Proofs.YtjhkadffaephmabGreat

/-
  slices.IndexFunc and slices.ContainsFunc, whatever the closure, at routers, mail and links.
-/
namespace Go.Proofs.YtjhkadffaephmabGreat
set_option maxRecDepth 100000
open Go.RowKit

set_option maxHeartbeats 1000000 in
theorem indexFunc_rtrs (fid : Nat) (cap : Array Value) (x : RtrsM) (p : Nat → Bool) (w : World) (h : x.In w.heap.size w)
    (hcf : ∀ (args : Array Value) (W : World), (callFunc fid args).run Tryz.prog W = .ok (.enter fid args) W)
    (hat : ∀ (i : Nat) (W : World), i < x.gn → Below w.heap.size w W → Calls Tryz.prog fid (#[.agg #[.slice (x.r i).ra (x.r i).rl (x.r i).rc, .slice (x.r i).T.ga (x.r i).T.t.len (x.r i).T.cap]] ++ cap) W fun e w' => e = .returned (.bool (p i)) ∧ Below W.heap.size W w') :
    Calls Tryz.prog 82 #[x.val, .func (.func fid) #[] cap] w fun e w' => (∃ r : Int, e = .returned (.int .i64 r) ∧ decide (0 ≤ r) = (List.range x.gn).any p) ∧ Below w.heap.size w w' := by
  have hlen := h.len
  unfold maxLen at hlen
  have HA := hide hat
  have H := hide h
  simp only [RtrsM.val]
  clear hat h
  go_enter Tryz.func82, Tryz.ntmps82
  go_wp2
  go_loopw [5, 8] (fun _ i wr => ∃ k : Nat, k ≤ x.gn ∧ i = .int .i64 k ∧ Hid (∀ r, r < k → p r = false) ∧ Hid (Below w.heap.size w wr)) (fun _ i _ => x.gn - (intOf i).toNat)
  case atStart => exact ⟨0, Nat.zero_le _, rfl, hide (fun r hr => absurd hr (Nat.not_lt_zero _)), hide (Below.refl _ _)⟩
  case round =>
    obtain ⟨k, hk, rfl, Hall, HB⟩ := hrel
    by_cases hlt : k < x.gn
    · have ha := H.out.ga (by omega)
      have hI := H.out.below HB.out (Nat.le_refl _)
      have hc0 := hI.c0 k hlt
      have hc1 := hI.c1 k hlt
      clear hI
      have hki : (k : Int) < (x.gn : Int) := by omega
      have HC := hide (HA.out k wr hlt HB.out)
      by_cases hp : p k = true
      · rw [hp] at HC
        have Hw : Hid ((List.range x.gn).any p = true) := hide (List.any_eq_true.2 ⟨k, List.mem_range.2 hlt, hp⟩)
        clear hp
        go_wp2_with fail
        refine HC.out.mono ?_
        rintro e w2 ⟨rfl, hb2⟩
        have HB2 := hide (HB.out.trans (hb2.mono HB.out.size))
        clear hb2
        go_wp2
        go_ret
        exact ⟨⟨(k : Int), rfl, by rw [Hw.out]; simp⟩, HB2.out⟩
      · have hpf : p k = false := by simpa using hp
        rw [hpf] at HC
        have Hpf := hide hpf
        clear hp hpf
        go_wp2_with fail
        refine HC.out.mono ?_
        rintro e w2 ⟨rfl, hb2⟩
        have HB2 := hide (HB.out.trans (hb2.mono HB.out.size))
        clear hb2
        have Hn : Hid (∀ r, r < k + 1 → p r = false) := hide (fun r hr => by
          by_cases e : r = k
          · subst e; exact Hpf.out
          · exact Hall.out r (by omega))
        go_wp2
        go_roundw
        case rel =>
          first
          | exact ⟨k + 1, by omega, by go_num, Hn, HB2⟩
          | ((try rw [← ha]); (repeat apply Exists.intro); refine ⟨?_, rfl⟩; exact ⟨k + 1, by omega, by go_num, Hn, HB2⟩)
        case measure => simp [intOf]; omega
    · have Hw : Hid ((List.range x.gn).any p = false) := hide (by
        rw [List.any_eq_false]
        intro r hr
        rw [Hall.out r (by have := List.mem_range.1 hr; omega)]; decide)
      go_wp2
      go_ret
      exact ⟨⟨-1, rfl, by rw [Hw.out]; rfl⟩, HB.out⟩

set_option maxHeartbeats 400000 in
theorem containsFunc_rtrs (fid : Nat) (cap : Array Value) (x : RtrsM) (p : Nat → Bool) (w : World) (h : x.In w.heap.size w)
    (hcf : ∀ (args : Array Value) (W : World), (callFunc fid args).run Tryz.prog W = .ok (.enter fid args) W)
    (hat : ∀ (i : Nat) (W : World), i < x.gn → Below w.heap.size w W → Calls Tryz.prog fid (#[.agg #[.slice (x.r i).ra (x.r i).rl (x.r i).rc, .slice (x.r i).T.ga (x.r i).T.t.len (x.r i).T.cap]] ++ cap) W fun e w' => e = .returned (.bool (p i)) ∧ Below W.heap.size W w') :
    Calls Tryz.prog 56 #[x.val, .func (.func fid) #[] cap] w fun e w' => e = .returned (.bool ((List.range x.gn).any p)) ∧ Below w.heap.size w w' := by
  have HC := hide (indexFunc_rtrs fid cap x p w h  hcf hat)
  simp only [RtrsM.val] at HC ⊢
  clear h hat hcf
  go_enter Tryz.func56, Tryz.ntmps56
  go_wp2_with fail
  go_at_call 82
  refine HC.out.mono ?_
  rintro e w1 ⟨⟨r, rfl, hr⟩, hb⟩
  have HB := hide hb
  have HR := hide hr
  clear hb hr
  go_wp2
  go_ret
  exact ⟨by rw [← HR.out]; rfl, HB.out⟩

set_option maxHeartbeats 1000000 in
theorem indexFunc_bag (fid : Nat) (cap : Array Value) (x : BagM) (p : Nat → Bool) (w : World) (h : x.In w.heap.size w)
    (hcf : ∀ (args : Array Value) (W : World), (callFunc fid args).run Tryz.prog W = .ok (.enter fid args) W)
    (hat : ∀ (i : Nat) (W : World), i < x.bn → Below w.heap.size w W → Calls Tryz.prog fid (#[.agg #[.int .i64 (x.M i).F, .int .i64 (x.M i).T, .string ⟨(x.M i).b.toArray⟩]] ++ cap) W fun e w' => e = .returned (.bool (p i)) ∧ Below W.heap.size W w') :
    Calls Tryz.prog 86 #[x.val, .func (.func fid) #[] cap] w fun e w' => (∃ r : Int, e = .returned (.int .i64 r) ∧ decide (0 ≤ r) = (List.range x.bn).any p) ∧ Below w.heap.size w w' := by
  have hlen := h.len
  unfold maxLen at hlen
  have HA := hide hat
  have H := hide h
  simp only [BagM.val]
  clear hat h
  go_enter Tryz.func86, Tryz.ntmps86
  go_wp2
  go_loopw [5, 8] (fun _ i wr => ∃ k : Nat, k ≤ x.bn ∧ i = .int .i64 k ∧ Hid (∀ r, r < k → p r = false) ∧ Hid (Below w.heap.size w wr)) (fun _ i _ => x.bn - (intOf i).toNat)
  case atStart => exact ⟨0, Nat.zero_le _, rfl, hide (fun r hr => absurd hr (Nat.not_lt_zero _)), hide (Below.refl _ _)⟩
  case round =>
    obtain ⟨k, hk, rfl, Hall, HB⟩ := hrel
    by_cases hlt : k < x.bn
    · have ha := H.out.ba (by omega)
      have hI := H.out.below HB.out (Nat.le_refl _)
      have hc0 := hI.c0 k hlt
      have hc1 := hI.c1 k hlt
      have hc2 := hI.c2 k hlt
      clear hI
      have hki : (k : Int) < (x.bn : Int) := by omega
      have HC := hide (HA.out k wr hlt HB.out)
      by_cases hp : p k = true
      · rw [hp] at HC
        have Hw : Hid ((List.range x.bn).any p = true) := hide (List.any_eq_true.2 ⟨k, List.mem_range.2 hlt, hp⟩)
        clear hp
        go_wp2_with fail
        refine HC.out.mono ?_
        rintro e w2 ⟨rfl, hb2⟩
        have HB2 := hide (HB.out.trans (hb2.mono HB.out.size))
        clear hb2
        go_wp2
        go_ret
        exact ⟨⟨(k : Int), rfl, by rw [Hw.out]; simp⟩, HB2.out⟩
      · have hpf : p k = false := by simpa using hp
        rw [hpf] at HC
        have Hpf := hide hpf
        clear hp hpf
        go_wp2_with fail
        refine HC.out.mono ?_
        rintro e w2 ⟨rfl, hb2⟩
        have HB2 := hide (HB.out.trans (hb2.mono HB.out.size))
        clear hb2
        have Hn : Hid (∀ r, r < k + 1 → p r = false) := hide (fun r hr => by
          by_cases e : r = k
          · subst e; exact Hpf.out
          · exact Hall.out r (by omega))
        go_wp2
        go_roundw
        case rel =>
          first
          | exact ⟨k + 1, by omega, by go_num, Hn, HB2⟩
          | ((try rw [← ha]); (repeat apply Exists.intro); refine ⟨?_, rfl⟩; exact ⟨k + 1, by omega, by go_num, Hn, HB2⟩)
        case measure => simp [intOf]; omega
    · have Hw : Hid ((List.range x.bn).any p = false) := hide (by
        rw [List.any_eq_false]
        intro r hr
        rw [Hall.out r (by have := List.mem_range.1 hr; omega)]; decide)
      go_wp2
      go_ret
      exact ⟨⟨-1, rfl, by rw [Hw.out]; rfl⟩, HB.out⟩

set_option maxHeartbeats 400000 in
theorem containsFunc_bag (fid : Nat) (cap : Array Value) (x : BagM) (p : Nat → Bool) (w : World) (h : x.In w.heap.size w)
    (hcf : ∀ (args : Array Value) (W : World), (callFunc fid args).run Tryz.prog W = .ok (.enter fid args) W)
    (hat : ∀ (i : Nat) (W : World), i < x.bn → Below w.heap.size w W → Calls Tryz.prog fid (#[.agg #[.int .i64 (x.M i).F, .int .i64 (x.M i).T, .string ⟨(x.M i).b.toArray⟩]] ++ cap) W fun e w' => e = .returned (.bool (p i)) ∧ Below W.heap.size W w') :
    Calls Tryz.prog 63 #[x.val, .func (.func fid) #[] cap] w fun e w' => e = .returned (.bool ((List.range x.bn).any p)) ∧ Below w.heap.size w w' := by
  have HC := hide (indexFunc_bag fid cap x p w h  hcf hat)
  simp only [BagM.val] at HC ⊢
  clear h hat hcf
  go_enter Tryz.func63, Tryz.ntmps63
  go_wp2_with fail
  go_at_call 86
  refine HC.out.mono ?_
  rintro e w1 ⟨⟨r, rfl, hr⟩, hb⟩
  have HB := hide hb
  have HR := hide hr
  clear hb hr
  go_wp2
  go_ret
  exact ⟨by rw [← HR.out]; rfl, HB.out⟩

set_option maxHeartbeats 1000000 in
theorem indexFunc_links (fid : Nat) (cap : Array Value) (x : NetM) (p : Nat → Bool) (w : World) (h : x.In w.heap.size w)
    (hcf : ∀ (args : Array Value) (W : World), (callFunc fid args).run Tryz.prog W = .ok (.enter fid args) W)
    (hat : ∀ (i : Nat) (W : World), i < x.ln → Below w.heap.size w W → Calls Tryz.prog fid (#[.agg #[.int .i64 (x.F i), .int .i64 (x.T i), .int .i64 (x.E i)]] ++ cap) W fun e w' => e = .returned (.bool (p i)) ∧ Below W.heap.size W w') :
    Calls Tryz.prog 106 #[.slice x.la x.ln x.lc, .func (.func fid) #[] cap] w fun e w' => (∃ r : Int, e = .returned (.int .i64 r) ∧ decide (0 ≤ r) = (List.range x.ln).any p) ∧ Below w.heap.size w w' := by
  have hlen := h.len
  unfold maxLen at hlen
  have HA := hide hat
  have H := hide h
  clear hat h
  go_enter Tryz.func106, Tryz.ntmps106
  go_wp2
  go_loopw [5, 8] (fun _ i wr => ∃ k : Nat, k ≤ x.ln ∧ i = .int .i64 k ∧ Hid (∀ r, r < k → p r = false) ∧ Hid (Below w.heap.size w wr)) (fun _ i _ => x.ln - (intOf i).toNat)
  case atStart => exact ⟨0, Nat.zero_le _, rfl, hide (fun r hr => absurd hr (Nat.not_lt_zero _)), hide (Below.refl _ _)⟩
  case round =>
    obtain ⟨k, hk, rfl, Hall, HB⟩ := hrel
    by_cases hlt : k < x.ln
    · have ha := H.out.la (by omega)
      have hI := H.out.below HB.out (Nat.le_refl _)
      have hc0 := hI.f k hlt
      have hc1 := hI.t k hlt
      have hc2 := hI.e k hlt
      clear hI
      have hki : (k : Int) < (x.ln : Int) := by omega
      have HC := hide (HA.out k wr hlt HB.out)
      by_cases hp : p k = true
      · rw [hp] at HC
        have Hw : Hid ((List.range x.ln).any p = true) := hide (List.any_eq_true.2 ⟨k, List.mem_range.2 hlt, hp⟩)
        clear hp
        go_wp2_with fail
        refine HC.out.mono ?_
        rintro e w2 ⟨rfl, hb2⟩
        have HB2 := hide (HB.out.trans (hb2.mono HB.out.size))
        clear hb2
        go_wp2
        go_ret
        exact ⟨⟨(k : Int), rfl, by rw [Hw.out]; simp⟩, HB2.out⟩
      · have hpf : p k = false := by simpa using hp
        rw [hpf] at HC
        have Hpf := hide hpf
        clear hp hpf
        go_wp2_with fail
        refine HC.out.mono ?_
        rintro e w2 ⟨rfl, hb2⟩
        have HB2 := hide (HB.out.trans (hb2.mono HB.out.size))
        clear hb2
        have Hn : Hid (∀ r, r < k + 1 → p r = false) := hide (fun r hr => by
          by_cases e : r = k
          · subst e; exact Hpf.out
          · exact Hall.out r (by omega))
        go_wp2
        go_roundw
        case rel =>
          first
          | exact ⟨k + 1, by omega, by go_num, Hn, HB2⟩
          | ((try rw [← ha]); (repeat apply Exists.intro); refine ⟨?_, rfl⟩; exact ⟨k + 1, by omega, by go_num, Hn, HB2⟩)
        case measure => simp [intOf]; omega
    · have Hw : Hid ((List.range x.ln).any p = false) := hide (by
        rw [List.any_eq_false]
        intro r hr
        rw [Hall.out r (by have := List.mem_range.1 hr; omega)]; decide)
      go_wp2
      go_ret
      exact ⟨⟨-1, rfl, by rw [Hw.out]; rfl⟩, HB.out⟩

set_option maxHeartbeats 400000 in
theorem containsFunc_links (fid : Nat) (cap : Array Value) (x : NetM) (p : Nat → Bool) (w : World) (h : x.In w.heap.size w)
    (hcf : ∀ (args : Array Value) (W : World), (callFunc fid args).run Tryz.prog W = .ok (.enter fid args) W)
    (hat : ∀ (i : Nat) (W : World), i < x.ln → Below w.heap.size w W → Calls Tryz.prog fid (#[.agg #[.int .i64 (x.F i), .int .i64 (x.T i), .int .i64 (x.E i)]] ++ cap) W fun e w' => e = .returned (.bool (p i)) ∧ Below W.heap.size W w') :
    Calls Tryz.prog 98 #[.slice x.la x.ln x.lc, .func (.func fid) #[] cap] w fun e w' => e = .returned (.bool ((List.range x.ln).any p)) ∧ Below w.heap.size w w' := by
  have HC := hide (indexFunc_links fid cap x p w h  hcf hat)
  clear h hat hcf
  go_enter Tryz.func98, Tryz.ntmps98
  go_wp2_with fail
  go_at_call 106
  refine HC.out.mono ?_
  rintro e w1 ⟨⟨r, rfl, hr⟩, hb⟩
  have HB := hide hb
  have HR := hide hr
  clear hb hr
  go_wp2
  go_ret
  exact ⟨by rw [← HR.out]; rfl, HB.out⟩

end Go.Proofs.YtjhkadffaephmabGreat

/-
  The arguments as they came: an algebra, and what is told to be broken, out of their readings.
-/
namespace Go.Proofs.YtjhkadffaephmabGreat
set_option maxRecDepth 100000
open Go.RowKit Go.ChangeShapes Go.WideShapes Go.Joins Go.Deep

theorem Tryz.cells24 : Tryz.prog.cellsOf 24 = 3 := by kernel_rfl
theorem Tryz.cells3 : Tryz.prog.cellsOf 3 = 1 := by kernel_rfl
theorem Tryz.cells22 : Tryz.prog.cellsOf 22 = 1 := by kernel_rfl
theorem Tryz.cells32 : Tryz.prog.cellsOf 32 = 1 := by kernel_rfl
theorem array5 {α : Type} {cs : Array α} (h : cs.size = 5) : ∃ a b c d e, cs = #[a, b, c, d, e] := by
  obtain ⟨l⟩ := cs
  match l, h with
  | [a, b, c, d, e], _ => exact ⟨a, b, c, d, e, rfl⟩

section
variable {H : Type} {enc : TypeId × Value → H} {W : World}

theorem open_mat {n : Nat} {v : Value} {y : DataW H × List MemPlace} (h : DataW.trod enc Tryz.prog W 0 (fun _ => true) true n 22 [v] = some y) : ∃ m : Mat, v = m.val ∧ m.In W.heap.size W := by
  rcases open_int_rows Tryz.underlying22 Tryz.underlying32 Tryz.underlying3 Tryz.cells32 Tryz.cells3 h with ⟨hcs, _⟩ | ⟨a, len, cap, A, L, C, Z, hcs, _, hl, hm, _, hrows⟩
  · simp at hcs
    refine ⟨⟨none, 0, 0, 0, fun _ => none, fun _ => 0, fun _ => 0, fun _ => 0, ⟨0, fun _ => 0, fun _ _ => 0⟩⟩, hcs, ⟨?_, ?_, ?_, ?_, ?_, Nat.zero_le _, ?_⟩⟩
    all_goals intro r
    · exact absurd r (Nat.not_lt_zero _)
    · exact absurd r (Nat.not_lt_zero _)
    all_goals
      intro hr
      exact absurd hr (Nat.not_lt_zero _)
  · simp at hcs
    obtain ⟨gb, go, gs⟩ := a
    rcases Nat.eq_zero_or_pos len with hl0 | hlp
    · subst hl0
      refine ⟨⟨some ⟨gb, go, gs⟩, 0, 0, cap, A, C, fun _ => 0, fun _ => 0, ⟨0, fun _ => 0, fun _ _ => 0⟩⟩, hcs, ⟨?_, ?_, ?_, ?_, ?_, Nat.zero_le _, ?_⟩⟩
      all_goals intro r
      · exact absurd r (Nat.not_lt_zero _)
      · exact absurd r (Nat.not_lt_zero _)
      all_goals
        intro hr
        exact absurd hr (Nat.not_lt_zero _)
    · have hgs : gs = none := by simpa [Addr.add] using World.cell?_spot (hrows 0 (by omega)).1
      subst hgs
      have hrow : ∀ r, r < len → W.cell? ⟨gb, go + r, none⟩ = some (.slice (A r) (L r) (C r)) := fun r hr => by rw [← add_plain]; exact (hrows r (by omega)).1
      have hAdr : ∀ r, r < len → ∀ c, c < L r → A r = some ⟨((A r).getD default).block, ((A r).getD default).off, none⟩ ∧ W.cell? ⟨((A r).getD default).block, ((A r).getD default).off + c, none⟩ = some (.int .i64 ((Z r).getD c 0)) := fun r hr c hc => by
        obtain ⟨_, h1, _, hzl, _, h3, h4⟩ := hrows r (by omega)
        cases hA : A r with
        | none => have := h3 hA; omega
        | some a' =>
          obtain ⟨ab, ao, asp⟩ := a'
          obtain ⟨_, hcell⟩ := h4 _ hA
          have has : asp = none := by simpa [Addr.add] using World.cell?_spot (hcell 0 (by omega))
          subst has
          exact ⟨rfl, by have := hcell c (by omega); rwa [add_plain] at this⟩
      refine ⟨⟨some ⟨gb, go, none⟩, gb, go, cap, A, C, fun r => ((A r).getD default).block, fun r => ((A r).getD default).off, ⟨len, L, fun r c => (Z r).getD c 0⟩⟩, hcs, ⟨fun _ => rfl, fun _ => World.block_lt_of_cell? _ _ (hrow 0 hlp), hrow, fun r hr h0 => ⟨(hAdr r hr 0 h0).1, World.block_lt_of_cell? W ⟨((A r).getD default).block, ((A r).getD default).off + 0, none⟩ (hAdr r hr 0 h0).2⟩, fun r hr c hc => (hAdr r hr c hc).2, by show len ≤ maxLen; omega, fun r hr => ?_⟩⟩
      obtain ⟨_, h1, h2, _⟩ := hrows r (by have : r < len := hr; omega)
      show L r ≤ maxLen
      omega

end

theorem Tryz.own : ownKnob Tryz.prog.godebug = none := by kernel_rfl
theorem Tryz.laidOut : laidOutB Tryz.prog = true := by kernel_rfl

end Go.Proofs.YtjhkadffaephmabGreat
