/-
  Our own texts, bundled: a claim holds few files.
-/
import Derived.Test.YtjhkadffaephmabBundleBE
import Derived.Test.YtjhkadffaephmabBundleCJ
/-
  Engines: plain mathematics. What events do; calm; strict algebras settle behind it.
-/
namespace Go.Proofs.Ytjhkadffaephmab

structure Mail where
  F : Int
  T : Int
  b : List UInt8

/-- An engine that passes Check, by its numbers: routes, who told whom, what, and what is on its way. -/
structure Eng where
  R : Nat → Nat → Int
  told : Nat → Nat → Bool
  D : Nat → Nat → Nat → Int
  bag : List Mail

/-- An event by its numbers. -/
structure Ev where
  kind : Int
  loc : Int
  b : Int
  c : Int
  n : Nat
  R : Nat → Int

def Eng.has (n : Net) (e : Eng) (i k j : Nat) : Int := if e.told i k = true then e.D i k j else n.a.size - 1
def Eng.look (n : Net) (e : Eng) (i : Nat) : Eng := { e with R := fun r j => if r = i then n.route i j (fun k => e.has n i k j) else e.R r j }
def Net.hearers (n : Net) (i : Nat) : List Nat := (List.range n.N).filter fun k => decide (0 ≤ n.edge k i)
def Eng.mail (n : Net) (e : Eng) (i k : Nat) : Mail := ⟨i, k, (Pkt.mk i k n.N (e.R i)).text⟩
def Eng.tick (n : Net) (e : Eng) (i : Nat) : Eng := { e.look n i with bag := e.bag ++ (n.hearers i).map fun k => (e.look n i).mail n i k }
def Eng.without (e : Eng) (k : Nat) : Eng := { e with bag := e.bag.eraseIdx k }
def Eng.tell (e : Eng) (i k : Nat) (f : Nat → Int) : Eng :=
  { e with told := fun a b => if a = i ∧ b = k then true else e.told a b, D := fun a b => if a = i ∧ b = k then f else e.D a b }
def Net.row (n : Net) (l : Nat) (f : Nat → Int) : Int := if (l : Int) ≠ n.nodes then 1 else if ((List.range l).all fun j => decide (0 ≤ f j) && decide (f j < n.a.size)) = false then 5 else 0
/-- Is it what a neighbour may have told? -/
def Net.heeds (n : Net) (m : Mail) : Prop := readErr m.b = 0 ∧ (packet m.b).F = m.F ∧ (packet m.b).T = m.T ∧ n.row (packet m.b).n (packet m.b).R = 0 ∧ 0 ≤ n.edge m.T m.F
abbrev Net.heedsDec (n : Net) (m : Mail) : Decidable (n.heeds m) := by unfold Net.heeds; exact inferInstance
def Eng.take (n : Net) (e : Eng) (m : Mail) : Eng := @ite Eng (n.heeds m) (n.heedsDec m) ((e.tell m.T.toNat m.F.toNat (packet m.b).R).look n m.T.toNat) e
def noMail : Mail := ⟨0, 0, []⟩
def Eng.deliver (n : Net) (e : Eng) (k : Nat) : Eng := (e.without k).take n (e.bag.getD k noMail)
def Eng.twice (e : Eng) (k : Nat) : Eng := { e with bag := e.bag ++ [e.bag.getD k noMail] }
def Mail.spoil (m : Mail) (i : Nat) (c : UInt8) : Mail := { m with b := m.b.set i (m.b.getD i 0 ^^^ c) }
def Eng.spoil (e : Eng) (k i : Nat) (c : UInt8) : Eng := { e with bag := e.bag.set k ((e.bag.getD k noMail).spoil i c) }
def Eng.expire (n : Net) (e : Eng) (i k : Nat) : Eng := Eng.look n { e with told := fun a b => if a = i ∧ b = k then false else e.told a b } i
def Eng.restart (e : Eng) (i : Nat) (f : Nat → Int) : Eng :=
  { e with R := fun r => if r = i then f else e.R r, told := fun a b => if a = i then false else e.told a b }

def Eng.stepErr (n : Net) (e : Eng) (v : Ev) : Int :=
  if v.kind < 1 ∨ 7 < v.kind then 7
  else if 2 ≤ v.kind ∧ v.kind ≤ 5 then
    if v.loc < 0 ∨ (e.bag.length : Int) ≤ v.loc then 5
    else if v.kind = 3 then (if 120 ≤ e.bag.length then 2 else 0)
    else if v.kind = 5 then (if (v.b < 0 ∨ ((e.bag.getD v.loc.toNat noMail).b.length : Int) ≤ v.b) ∨ (v.c < 1 ∨ 255 < v.c) then 3 else 0)
    else 0
  else if v.loc < 0 ∨ n.nodes ≤ v.loc then 5
  else if v.kind = 1 then (if 120 < e.bag.length + (n.hearers v.loc.toNat).length then 2 else 0)
  else if v.kind = 6 then (if v.b < 0 ∨ n.nodes ≤ v.b then 5 else 0)
  else n.row v.n v.R
def Eng.step (n : Net) (e : Eng) (v : Ev) : Eng :=
  if v.kind = 1 then e.tick n v.loc.toNat
  else if v.kind = 2 then e.deliver n v.loc.toNat
  else if v.kind = 3 then e.twice v.loc.toNat
  else if v.kind = 4 then e.without v.loc.toNat
  else if v.kind = 5 then e.spoil v.loc.toNat v.b.toNat (u8 v.c)
  else if v.kind = 6 then e.expire n v.loc.toNat v.b.toNat
  else e.restart v.loc.toNat v.R
def Eng.play (n : Net) : Eng → List Ev → Eng × Nat
  | e, [] => (e, 0)
  | e, v :: l => if e.stepErr n v = 0 then ((Eng.play n (e.step n v) l).1, (Eng.play n (e.step n v) l).2 + 1) else (e, 0)
/-- So many come, the first one first. -/
def Eng.drain (n : Net) : Nat → Eng → Eng
  | 0, e => e
  | k + 1, e => Eng.drain n k (e.deliver n 0)
def Eng.comes (n : Net) (e : Eng) : Eng := e.drain n e.bag.length
/-- The first so many nodes tick. -/
def Eng.ticks (n : Net) (e : Eng) : Nat → Eng
  | 0 => e
  | k + 1 => (e.ticks n k).tick n k
def Eng.round (n : Net) (e : Eng) : Eng := (e.ticks n n.N).comes n
def Eng.rounds (n : Net) (e : Eng) : Nat → Eng
  | 0 => e
  | k + 1 => (e.rounds n k).round n
def Eng.calm (n : Net) (e : Eng) (k : Nat) : Eng := (e.comes n).rounds n k

theorem Net.row_zero {n : Net} {l : Nat} {f : Nat → Int} : n.row l f = 0 ↔ (l : Int) = n.nodes ∧ ∀ j, j < l → 0 ≤ f j ∧ f j < n.a.size := by
  unfold Net.row
  split
  · next h => exact ⟨fun e => absurd e (by decide), fun e => absurd e.1 h⟩
  · next h =>
    have h' : (l : Int) = n.nodes := by omega
    split
    · next h2 =>
      refine ⟨fun e => absurd e (by decide), fun e => ?_⟩
      have : ((List.range l).all fun j => decide (0 ≤ f j) && decide (f j < n.a.size)) = true := by simp; exact e.2
      rw [this] at h2; cases h2
    · next h2 =>
      refine ⟨fun _ => ⟨h', ?_⟩, fun _ => rfl⟩
      simpa using h2

/-- All that an engine holds are routes, and what is on its way is between nodes. -/
structure Eng.Fit (n : Net) (e : Eng) : Prop where
  R : n.State e.R
  D : ∀ i k j, i < n.N → k < n.N → j < n.N → e.told i k = true → 0 ≤ e.D i k j ∧ e.D i k j < n.a.size
  many : e.bag.length ≤ 120
  mail : ∀ m ∈ e.bag, (0 ≤ m.F ∧ m.F < n.nodes) ∧ (0 ≤ m.T ∧ m.T < n.nodes) ∧ m.b.length ≤ 60

section
variable {n : Net}

theorem Eng.Fit.has (g : n.Good) {e : Eng} (h : e.Fit n) {i j : Nat} (hi : i < n.N) (hj : j < n.N) : n.Routes (fun k => e.has n i k j) := fun k hk => by
  have lo := g.law.good.lo
  show 0 ≤ e.has n i k j ∧ e.has n i k j < n.a.size
  unfold Eng.has
  split
  · next ht => exact h.D i k j hi hk hj ht
  · omega
theorem Eng.Fit.look (g : n.Good) {e : Eng} (h : e.Fit n) {i : Nat} (hi : i < n.N) : (e.look n i).Fit n :=
  ⟨fun r j hr hj => by
    show 0 ≤ (if r = i then _ else _) ∧ (if r = i then _ else _) < _
    split
    · exact n.route_in g (h.has g hi hj) i j
    · exact h.R r j hr hj, h.D, h.many, h.mail⟩
theorem Eng.Fit.without {e : Eng} (h : e.Fit n) (k : Nat) : (e.without k).Fit n :=
  ⟨h.R, h.D, by have := h.many; have := List.length_eraseIdx_le e.bag k; show (e.bag.eraseIdx k).length ≤ 120; omega, fun m hm => h.mail m (List.mem_of_mem_eraseIdx hm)⟩
theorem Net.nodes_N (g : n.Good) : (n.N : Int) = n.nodes := by
  have := g.lo
  unfold Net.N; omega
theorem Eng.Fit.tell {e : Eng} (h : e.Fit n) {i k : Nat} {f : Nat → Int} (hf : ∀ j, j < n.N → 0 ≤ f j ∧ f j < n.a.size) : (e.tell i k f).Fit n :=
  ⟨h.R, fun a b j ha hb hj ht => by
    show 0 ≤ (if a = i ∧ b = k then f else e.D a b) j ∧ (if a = i ∧ b = k then f else e.D a b) j < _
    by_cases he : a = i ∧ b = k
    · rw [if_pos he]; exact hf j hj
    · rw [if_neg he]
      have ht' : (if a = i ∧ b = k then true else e.told a b) = true := ht
      rw [if_neg he] at ht'
      exact h.D a b j ha hb hj ht', h.many, h.mail⟩
theorem Net.edge_node (g : n.Good) {i k : Int} (h : 0 ≤ n.edge i k) : (0 ≤ i ∧ i < n.nodes) ∧ (0 ≤ k ∧ k < n.nodes) := by
  obtain ⟨l, hl, e1, e2, _⟩ := Net.link_edge h
  have := g.link l hl
  omega
theorem Eng.Fit.take (g : n.Good) {e : Eng} (h : e.Fit n) (m : Mail) : (e.take n m).Fit n := by
  unfold Eng.take
  split
  · next hm =>
    have hn := n.nodes_N g
    have hr := Net.row_zero.1 hm.2.2.2.1
    have he := n.edge_node g hm.2.2.2.2
    exact (h.tell fun j hj => hr.2 j (by omega)).look g (by omega)
  · exact h
theorem Eng.Fit.deliver (g : n.Good) {e : Eng} (h : e.Fit n) (k : Nat) : (e.deliver n k).Fit n := (h.without k).take g _
theorem Net.hearers_le (i : Nat) : (n.hearers i).length ≤ n.N := by
  have := List.length_filter_le (fun k : Nat => decide (0 ≤ n.edge k i)) (List.range n.N)
  simpa [Net.hearers] using this
theorem Net.mem_hearers {i k : Nat} : k ∈ n.hearers i ↔ k < n.N ∧ 0 ≤ n.edge k i := by simp [Net.hearers]
theorem Eng.mail_err (g : n.Good) {e : Eng} (h : e.Fit n) {i k : Nat} (hi : i < n.N) (hk : k < n.N) : (Pkt.mk i k n.N (e.R i)).err = 0 := by
  have hn := n.nodes_N g
  have h6 := g.hi
  have h24 := g.law.good.hi
  apply Pkt.err_of
  · unfold Pkt.inRange inB
    simp only [Bool.and_eq_true, decide_eq_true_eq]
    exact ⟨⟨⟨by omega, by omega⟩, ⟨by omega, by omega⟩⟩, Pkt.routesIn_iff.2 fun j hj => by have := h.R i j hi hj; show 0 ≤ e.R i j ∧ e.R i j ≤ 250; omega⟩
  · show n.N + 6 ≤ 60
    omega
theorem Eng.mail_text (g : n.Good) {e : Eng} (h : e.Fit n) {i k : Nat} (hi : i < n.N) (hk : k < n.N) : (e.mail n i k).b = (Pkt.mk i k n.N (e.R i)).bytes := by
  show (Pkt.mk i k n.N (e.R i)).text = _
  unfold Pkt.text; rw [if_pos (Eng.mail_err g h hi hk)]
theorem Eng.Fit.tick (g : n.Good) {e : Eng} (h : e.Fit n) {i : Nat} (hi : i < n.N) (hb : e.bag.length + (n.hearers i).length ≤ 120) : (e.tick n i).Fit n := by
  have hl := h.look g hi
  have hn := n.nodes_N g
  refine ⟨hl.R, hl.D, ?_, ?_⟩
  · show (e.bag ++ (n.hearers i).map fun k => (e.look n i).mail n i k).length ≤ 120
    simp; exact hb
  · intro m hm
    have hm' : m ∈ e.bag ++ (n.hearers i).map fun k => (e.look n i).mail n i k := hm
    rcases List.mem_append.1 hm' with h1 | h1
    · exact h.mail m h1
    · obtain ⟨k, hk, rfl⟩ := List.mem_map.1 h1
      have hk' := Net.mem_hearers.1 hk
      refine ⟨⟨by show 0 ≤ (i : Int); omega, by show (i : Int) < _; omega⟩, ⟨by show 0 ≤ (k : Int); omega, by show (k : Int) < _; omega⟩, ?_⟩
      rw [Eng.mail_text g hl hi hk'.1, Pkt.bytes_length]
      show n.N + 6 ≤ 60
      have := g.hi
      omega
theorem getD_mem {α : Type} {l : List α} {k : Nat} {d : α} (h : k < l.length) : l.getD k d ∈ l := by
  rw [List.getD_eq_getElem?_getD, List.getElem?_eq_getElem h]
  exact List.getElem_mem h
theorem Eng.Fit.step (g : n.Good) {e : Eng} (h : e.Fit n) {v : Ev} (hv : e.stepErr n v = 0) : (e.step n v).Fit n := by
  have hn := n.nodes_N g
  unfold Eng.stepErr at hv
  split at hv
  · cases hv
  · next hk =>
    unfold Eng.step
    split at hv
    · next hm =>
      split at hv
      · cases hv
      · next hl =>
        have hloc : v.loc.toNat < e.bag.length := by omega
        rw [if_neg (by omega)]
        split
        · exact h.deliver g _
        · split
          · next h3 =>
            rw [if_pos h3] at hv
            split at hv
            · cases hv
            · refine ⟨h.R, h.D, ?_, ?_⟩
              · show (e.bag ++ [_]).length ≤ 120
                simp; omega
              · intro m hm'
                rcases List.mem_append.1 (show m ∈ e.bag ++ [_] from hm') with h1 | h1
                · exact h.mail m h1
                · rw [List.mem_singleton.1 h1]; exact h.mail _ (getD_mem hloc)
          · next h3 =>
            rw [if_neg h3] at hv
            split
            · exact h.without _
            · have h5 : v.kind = 5 := by omega
              rw [if_pos h5]
              refine ⟨h.R, h.D, ?_, ?_⟩
              · show (e.bag.set _ _).length ≤ 120
                rw [List.length_set]; exact h.many
              · intro m hm'
                rcases List.mem_or_eq_of_mem_set (show m ∈ e.bag.set _ _ from hm') with h1 | h1
                · exact h.mail m h1
                · subst h1
                  have := h.mail _ (getD_mem (d := noMail) hloc)
                  refine ⟨this.1, this.2.1, ?_⟩
                  show (List.set _ _ _).length ≤ 60
                  rw [List.length_set]; exact this.2.2
    · next hm =>
      split at hv
      · cases hv
      · next hl =>
        have hloc : v.loc.toNat < n.N := by omega
        split
        · next h1 =>
          rw [if_pos h1] at hv
          split at hv
          · cases hv
          · exact h.tick g hloc (by omega)
        · next h1 =>
          rw [if_neg h1] at hv
          rw [if_neg (by omega), if_neg (by omega), if_neg (by omega), if_neg (by omega)]
          split
          · next h6 =>
            refine Eng.Fit.look g (e := { e with told := fun a b => if a = v.loc.toNat ∧ b = v.b.toNat then false else e.told a b }) ⟨h.R, fun a b j ha hb hj ht => ?_, h.many, h.mail⟩ hloc
            have ht' : (if a = v.loc.toNat ∧ b = v.b.toNat then false else e.told a b) = true := ht
            split at ht'
            · cases ht'
            · exact h.D a b j ha hb hj ht'
          · next h6 =>
            rw [if_neg h6] at hv
            have hr := Net.row_zero.1 hv
            refine ⟨fun r j hr' hj => ?_, fun a b j ha hb hj ht => ?_, h.many, h.mail⟩
            · show 0 ≤ (if r = v.loc.toNat then v.R else e.R r) j ∧ (if r = v.loc.toNat then v.R else e.R r) j < _
              split
              · exact hr.2 j (by omega)
              · exact h.R r j hr' hj
            · have ht' : (if a = v.loc.toNat then false else e.told a b) = true := ht
              split at ht'
              · cases ht'
              · exact h.D a b j ha hb hj ht'
theorem Eng.Fit.play (g : n.Good) : ∀ (l : List Ev) {e : Eng}, e.Fit n → (Eng.play n e l).1.Fit n
  | [], _, h => h
  | v :: l, e, h => by
    unfold Eng.play
    split
    · next hv => exact Eng.Fit.play g l (h.step g hv)
    · exact h
theorem Eng.Fit.drain (g : n.Good) : ∀ (k : Nat) {e : Eng}, e.Fit n → (Eng.drain n k e).Fit n
  | 0, _, h => h
  | k + 1, _, h => Eng.Fit.drain g k (h.deliver g 0)
theorem Eng.take_bag (e : Eng) (m : Mail) : (e.take n m).bag = e.bag := by
  unfold Eng.take; split <;> rfl
theorem Eng.deliver_bag (e : Eng) (k : Nat) : (e.deliver n k).bag = e.bag.eraseIdx k := Eng.take_bag _ _
theorem Eng.drain_bag : ∀ (k : Nat) (e : Eng), (Eng.drain n k e).bag = e.bag.drop k
  | 0, e => by rw [List.drop_zero]; rfl
  | k + 1, e => by
    show (Eng.drain n k (e.deliver n 0)).bag = _
    rw [Eng.drain_bag k, Eng.deliver_bag]
    cases e.bag with
    | nil => simp
    | cons m l => rfl
theorem Eng.comes_bag (e : Eng) : (e.comes n).bag = [] := by
  unfold Eng.comes; rw [Eng.drain_bag]; simp
theorem Eng.Fit.comes (g : n.Good) {e : Eng} (h : e.Fit n) : (e.comes n).Fit n := h.drain g _
theorem Eng.ticks_bag (e : Eng) : ∀ k, (e.ticks n k).bag.length ≤ e.bag.length + k * n.N
  | 0 => by simp [Eng.ticks]
  | k + 1 => by
    have := Eng.ticks_bag e k
    have := Net.hearers_le (n := n) k
    show ((e.ticks n k).bag ++ (n.hearers k).map _).length ≤ _
    rw [List.length_append, List.length_map, Nat.succ_mul]; omega
theorem Net.ticks_room (g : n.Good) {k : Nat} (hk : k ≤ n.N) : k * n.N ≤ 36 := by
  have h6 := g.hi
  have hn := n.nodes_N g
  calc k * n.N ≤ 6 * 6 := Nat.mul_le_mul (by omega) (by omega)
    _ = 36 := rfl
theorem Eng.Fit.ticks (g : n.Good) {e : Eng} (h : e.Fit n) (hb : e.bag = []) : ∀ k, k ≤ n.N → (e.ticks n k).Fit n
  | 0, _ => h
  | k + 1, hk => by
    have h1 := Eng.ticks_bag (n := n) e k
    have h2 := Net.hearers_le (n := n) k
    have h3 := Net.ticks_room g hk
    rw [Nat.succ_mul] at h3
    rw [hb] at h1
    exact (Eng.Fit.ticks g h hb k (by omega)).tick g (by omega) (by simp at h1; omega)

/-- What ticks leave as it was, and what they send. -/
theorem Eng.ticks_keep (e : Eng) : ∀ k, (e.ticks n k).told = e.told ∧ (e.ticks n k).D = e.D ∧ (∀ i j, i < k → (e.ticks n k).R i j = n.route i j (fun q => e.has n i q j)) ∧
    (e.bag = [] → ∀ m, m ∈ (e.ticks n k).bag ↔ ∃ i q, i < k ∧ q ∈ n.hearers i ∧ m = (Eng.mk (fun i j => n.route i j (fun q => e.has n i q j)) e.told e.D []).mail n i q)
  | 0 => ⟨rfl, rfl, fun i j hi => absurd hi (Nat.not_lt_zero _), fun hb m => by
      show m ∈ e.bag ↔ _
      rw [hb]; constructor
      · intro h; cases h
      · rintro ⟨i, _, hi, _⟩; exact absurd hi (Nat.not_lt_zero _)⟩
  | k + 1 => by
    obtain ⟨h1, h2, h3, h4⟩ := Eng.ticks_keep e k
    have hh : ∀ i q j, (e.ticks n k).has n i q j = e.has n i q j := fun i q j => by unfold Eng.has; rw [h1, h2]
    have hR : ∀ i j, i < k + 1 → ((e.ticks n k).look n k).R i j = n.route i j (fun q => e.has n i q j) := fun i j hi => by
      show (if i = k then _ else _) = _
      split
      · next e1 => subst e1; congr 1; funext q; exact hh _ _ _
      · exact h3 i j (by omega)
    refine ⟨h1, h2, hR, fun hb m => ?_⟩
    have hmail : ∀ q, ((e.ticks n k).look n k).mail n k q = (Eng.mk (fun i j => n.route i j (fun q => e.has n i q j)) e.told e.D []).mail n k q := fun q => by
      have : ((e.ticks n k).look n k).R k = fun j => n.route k j (fun q => e.has n k q j) := funext fun j => hR k j (by omega)
      unfold Eng.mail; rw [this]
    show m ∈ (e.ticks n k).bag ++ (n.hearers k).map _ ↔ _
    rw [List.mem_append, h4 hb m, List.mem_map]
    constructor
    · rintro (⟨i, q, hi, hq, rfl⟩ | ⟨q, hq, rfl⟩)
      · exact ⟨i, q, by omega, hq, rfl⟩
      · exact ⟨k, q, by omega, hq, hmail q⟩
    · rintro ⟨i, q, hi, hq, rfl⟩
      by_cases e1 : i = k
      · subst e1; exact Or.inr ⟨q, hq, hmail q⟩
      · exact Or.inl ⟨i, q, by omega, hq, rfl⟩

/-- Mail that tells what x has. -/
def Net.Says (n : Net) (x : Nat → Nat → Int) (m : Mail) : Prop := ∃ i q, i < n.N ∧ q ∈ n.hearers i ∧ n.heeds m ∧ m.F = i ∧ m.T = q ∧ ∀ j, j < n.N → (packet m.b).R j = x i j
theorem Eng.mail_says (g : n.Good) {e : Eng} (h : e.Fit n) {i q : Nat} (hi : i < n.N) (hq : q ∈ n.hearers i) : n.Says e.R (e.mail n i q) := by
  have hn := n.nodes_N g
  have hq' := Net.mem_hearers.1 hq
  have he := Eng.mail_err g h hi hq'.1
  obtain ⟨r1, r2⟩ := readErr_bytes he
  have ht := Eng.mail_text g h hi hq'.1
  refine ⟨i, q, hi, hq, ⟨?_, ?_, ?_, ?_, hq'.2⟩, rfl, rfl, fun j hj => ?_⟩
  · rw [ht]; exact r1
  · rw [ht]; exact r2.1
  · rw [ht]; exact r2.2.1
  · rw [ht]
    refine Net.row_zero.2 ⟨?_, fun j hj => ?_⟩
    · rw [r2.2.2.1]; exact hn
    · rw [r2.2.2.2 j hj]
      have := r2.2.2.1
      exact h.R i j hi (by simp only at this; omega)
  · rw [ht]
    exact r2.2.2.2 j (by have := r2.2.2.1; simp only at this; omega)

/-- While mail of what x has comes. -/
structure Net.Hears (n : Net) (x : Nat → Nat → Int) (e : Eng) : Prop where
  R : ∀ i j, i < n.N → j < n.N → e.R i j = n.route i j (fun k => e.has n i k j)
  says : ∀ m ∈ e.bag, n.Says x m
theorem Eng.tell_has (e : Eng) {i k : Nat} {f : Nat → Int} (a b j : Nat) : (e.tell i k f).has n a b j = if a = i ∧ b = k then f j else e.has n a b j := by
  unfold Eng.has
  show (if (if a = i ∧ b = k then true else e.told a b) = true then (if a = i ∧ b = k then f else e.D a b) j else _) = _
  by_cases h : a = i ∧ b = k
  · simp [h]
  · simp [h]
/-- One more comes. -/
theorem Net.Hears.deliver {x : Nat → Nat → Int} {e : Eng} (h : n.Hears x e) {m : Mail} {l : List Mail} (hb : e.bag = m :: l) :
    n.Hears x (e.deliver n 0) ∧ (∀ a b j : Nat, j < n.N → (e.deliver n 0).has n a b j = if m.T = (a : Int) ∧ m.F = (b : Int) then x b j else e.has n a b j) := by
  obtain ⟨i, q, hi, hq, hh, e1, e2, e3⟩ := h.says m (by rw [hb]; simp)
  have hd : e.deliver n 0 = ((e.without 0).tell q i (packet m.b).R).look n q := by
    unfold Eng.deliver Eng.take
    have : e.bag.getD 0 noMail = m := by rw [hb]; rfl
    rw [this, if_pos hh, e1, e2]
    rfl
  have hhas : ∀ a b j : Nat, j < n.N → (e.deliver n 0).has n a b j = if m.T = (a : Int) ∧ m.F = (b : Int) then x b j else e.has n a b j := fun a b j hj => by
    rw [hd]
    show ((e.without 0).tell q i (packet m.b).R).has n a b j = _
    rw [Eng.tell_has]
    by_cases hab : a = q ∧ b = i
    · rw [if_pos hab, if_pos ⟨by rw [e2, hab.1], by rw [e1, hab.2]⟩, e3 j hj, hab.2]
    · rw [if_neg hab, if_neg (fun c => hab ⟨by omega, by omega⟩)]
      rfl
  refine ⟨⟨fun a j ha hj => ?_, fun u hu => ?_⟩, hhas⟩
  · rw [hd]
    show (if a = q then n.route q j (fun k => ((e.without 0).tell q i (packet m.b).R).has n q k j) else e.R a j) = n.route a j (fun k => ((e.without 0).tell q i (packet m.b).R).has n a k j)
    by_cases haq : a = q
    · rw [if_pos haq, haq]
    · rw [if_neg haq, h.R a j ha hj]
      congr 1; funext k
      rw [Eng.tell_has, if_neg (fun c => haq c.1)]
      rfl
  · rw [Eng.deliver_bag] at hu
    exact h.says u (List.mem_of_mem_eraseIdx hu)
/-- All come. -/
theorem Net.Hears.drain {x : Nat → Nat → Int} : ∀ (k : Nat) {e : Eng}, n.Hears x e → e.bag.length = k → n.Hears x (Eng.drain n k e) ∧
    (∀ a b j : Nat, j < n.N → ((∃ m ∈ e.bag, m.T = (a : Int) ∧ m.F = (b : Int)) ∨ e.has n a b j = x b j) → (Eng.drain n k e).has n a b j = x b j)
  | 0, e, h, hl => ⟨h, fun a b j hj hm => by
      rcases hm with ⟨m, hm, _⟩ | hm
      · rw [List.length_eq_zero_iff.1 hl] at hm; cases hm
      · exact hm⟩
  | k + 1, e, h, hl => by
    cases hb : e.bag with
    | nil => rw [hb] at hl; cases hl
    | cons m l =>
      obtain ⟨h1, h2⟩ := h.deliver hb
      have hl' : (e.deliver n 0).bag.length = k := by
        rw [Eng.deliver_bag, hb]; rw [hb] at hl; simpa using hl
      obtain ⟨h3, h4⟩ := Net.Hears.drain k h1 hl'
      refine ⟨h3, fun a b j hj hm => h4 a b j hj ?_⟩
      have hx := h2 a b j hj
      by_cases hmm : m.T = (a : Int) ∧ m.F = (b : Int)
      · right; rw [hx, if_pos hmm]
      · rcases hm with ⟨u, hu, hu'⟩ | hm
        · left
          refine ⟨u, ?_, hu'⟩
          rw [Eng.deliver_bag, hb]
          rcases List.mem_cons.1 hu with e1 | e1
          · subst e1; exact absurd hu' hmm
          · exact e1
        · right; rw [hx, if_neg hmm]; exact hm
/-- A round of calm is a round of what the ticks told. -/
theorem Eng.round_is (g : n.Good) {e : Eng} (h : e.Fit n) (hb : e.bag = []) :
    ∀ i j, i < n.N → j < n.N → (e.round n).R i j = n.round (fun a b => n.route a b (fun k => e.has n a k b)) i j ∧ n.route i j (fun k => (e.round n).has n i k j) = n.round (fun a b => n.route a b (fun k => e.has n a k b)) i j := by
  obtain ⟨k1, k2, k3, k4⟩ := Eng.ticks_keep (n := n) e n.N
  have hft := h.ticks g hb n.N (Nat.le_refl _)
  let y : Eng := ⟨fun i j => n.route i j (fun q => e.has n i q j), e.told, e.D, []⟩
  have hy : y.Fit n := ⟨fun i j hi hj => n.route_in g (h.has g hi hj) i j, h.D, by simp [y], by simp [y]⟩
  have hh : n.Hears y.R (e.ticks n n.N) := by
    refine ⟨fun i j hi hj => ?_, fun m hm => ?_⟩
    · rw [k3 i j hi]
      congr 1; funext q
      unfold Eng.has; rw [k1, k2]
    · obtain ⟨i, q, hi, hq, rfl⟩ := (k4 hb m).1 hm
      exact Eng.mail_says g hy hi hq
  obtain ⟨d1, d2⟩ := hh.drain (e.ticks n n.N).bag.length rfl
  have hr : ∀ i j, i < n.N → j < n.N → n.route i j (fun k => (e.round n).has n i k j) = n.round y.R i j := fun i j hi hj => by
    unfold Net.round
    apply n.route_edge
    intro k hk he
    refine d2 i k j hj (Or.inl ⟨y.mail n k i, (k4 hb _).2 ⟨k, i, hk, Net.mem_hearers.2 ⟨hi, he⟩, rfl⟩, rfl, rfl⟩)
  exact fun i j hi hj => ⟨(d1.R i j hi hj).trans (hr i j hi hj), hr i j hi hj⟩
theorem Eng.round_bag (e : Eng) : (e.round n).bag = [] := Eng.comes_bag _
theorem Eng.Fit.round (g : n.Good) {e : Eng} (h : e.Fit n) (hb : e.bag = []) : (e.round n).Fit n := (h.ticks g hb n.N (Nat.le_refl _)).comes g
theorem Eng.rounds_fit (g : n.Good) {e : Eng} (h : e.Fit n) (hb : e.bag = []) : ∀ k, (e.rounds n k).Fit n ∧ (e.rounds n k).bag = []
  | 0 => ⟨h, hb⟩
  | k + 1 => by
    obtain ⟨h1, h2⟩ := Eng.rounds_fit g h hb k
    exact ⟨h1.round g h2, Eng.round_bag _⟩
theorem Eng.rounds_is (g : n.Good) {e : Eng} (h : e.Fit n) (hb : e.bag = []) : ∀ k i j, i < n.N → j < n.N →
    n.route i j (fun q => (e.rounds n k).has n i q j) = n.iter k (fun a b => n.route a b (fun q => e.has n a q b)) i j ∧ (0 < k → (e.rounds n k).R i j = n.iter k (fun a b => n.route a b (fun q => e.has n a q b)) i j)
  | 0, i, j, _, _ => ⟨rfl, fun h => absurd h (Nat.lt_irrefl _)⟩
  | k + 1, i, j, hi, hj => by
    obtain ⟨h1, h2⟩ := Eng.rounds_fit g h hb k
    have hk := Eng.rounds_is g h hb k
    have h3 := Eng.round_is g h1 h2 i j hi hj
    have h4 : n.round (fun a b => n.route a b (fun q => (e.rounds n k).has n a q b)) i j = n.iter (k + 1) (fun a b => n.route a b (fun q => e.has n a q b)) i j := by
      have := n.round_congr (x := fun a b => n.route a b (fun q => (e.rounds n k).has n a q b)) (y := n.iter k (fun a b => n.route a b (fun q => e.has n a q b))) (fun a b ha hb => (hk a b ha hb).1) i j hi hj
      rw [this]
      show _ = n.iter k (n.round _) i j
      rw [n.iter_round]
    exact ⟨h3.2.trans h4, fun _ => h3.1.trans h4⟩
/-- Behind calm all routes are the one fixed state. -/
theorem Eng.calm_settles (g : n.Good) (hs : n.a.Strict) {e : Eng} (h : e.Fit n) {k : Nat} (hk : n.a.size ≤ k) {p : Nat → Nat → Int} (hp : n.State p) (hfix : ∀ i j, i < n.N → j < n.N → n.round p i j = p i j) :
    (e.calm n k).bag = [] ∧ ∀ i j, i < n.N → j < n.N → (e.calm n k).R i j = p i j := by
  have lo := g.law.good.lo
  have h1 := h.comes g
  have hb := Eng.comes_bag (n := n) e
  refine ⟨(Eng.rounds_fit g h1 hb k).2, fun i j hi hj => ?_⟩
  have h2 := (Eng.rounds_is g h1 hb k i j hi hj).2 (by omega)
  show ((e.comes n).rounds n k).R i j = _
  rw [h2]
  have hst : n.State (fun a b => n.route a b (fun q => (e.comes n).has n a q b)) := fun a b ha hb => n.route_in g (h1.has g ha hb) a b
  rw [n.iter_same g hs hst hp (by omega) i j hi hj]
  exact n.fix_iter hfix k i j hi hj
end

end Go.Proofs.Ytjhkadffaephmab

/-
  Mail of which one byte was turned is not heeded.
-/
namespace Go.Proofs.Ytjhkadffaephmab

theorem xor_ne {x c : UInt8} (h : c ≠ 0) : x ^^^ c ≠ x := fun e => h (by
  have : x ^^^ (x ^^^ c) = x ^^^ x := by rw [e]
  rw [← UInt8.xor_assoc, UInt8.xor_self, UInt8.zero_xor] at this
  exact this)

theorem spoilt_same {n : Net} (g : n.Good) {e : Eng} (h : e.Fit n) {i b : Nat} {c : UInt8} (hi : i < n.N) (hne : 0 < (n.hearers i).length) (hc : c ≠ 0) (hb : b < ((e.tick n i).bag.getD e.bag.length noMail).b.length) :
    ((e.tick n i).spoil e.bag.length b c).deliver n e.bag.length = ((e.tick n i).spoil e.bag.length b c).without e.bag.length := by
  obtain ⟨q, l, hq⟩ : ∃ q l, n.hearers i = q :: l := by
    cases hh : n.hearers i with
    | nil => rw [hh] at hne; exact absurd hne (Nat.lt_irrefl _)
    | cons q l => exact ⟨q, l, rfl⟩
  have hqN : q < n.N := (Net.mem_hearers.1 (by rw [hq]; exact List.mem_cons_self)).1
  have hf := h.look g hi
  have hget : (e.tick n i).bag.getD e.bag.length noMail = (e.look n i).mail n i q := by
    show (e.bag ++ (n.hearers i).map fun k => (e.look n i).mail n i k).getD e.bag.length noMail = _
    rw [hq]
    simp [List.getD_eq_getElem?_getD]
  have hlen : e.bag.length < (e.tick n i).bag.length := by
    show e.bag.length < (e.bag ++ (n.hearers i).map fun k => (e.look n i).mail n i k).length
    rw [List.length_append, List.length_map]; omega
  rw [hget] at hb
  have hbytes := Eng.mail_text g hf hi hqN
  have herr := Eng.mail_err g hf hi hqN
  have hsp : ((e.tick n i).spoil e.bag.length b c).bag.getD e.bag.length noMail = ((e.look n i).mail n i q).spoil b c := by
    show ((e.tick n i).bag.set e.bag.length (((e.tick n i).bag.getD e.bag.length noMail).spoil b c)).getD e.bag.length noMail = _
    rw [hget, List.getD_eq_getElem?_getD, List.getElem?_set_self hlen]
    rfl
  unfold Eng.deliver Eng.take
  rw [hsp, if_neg]
  intro hh
  have h1 : readErr (((e.look n i).mail n i q).b.set b (((e.look n i).mail n i q).b.getD b 0 ^^^ c)) = 0 := hh.1
  rw [hbytes] at h1 hb
  have hg : (Pkt.mk i q n.N ((e.look n i).R i)).bytes.getD b 0 = (Pkt.mk i q n.N ((e.look n i).R i)).bytes[b] := by
    rw [List.getD_eq_getElem?_getD, List.getElem?_eq_getElem hb]; rfl
  rw [hg] at h1
  exact turned_ne herr hb (xor_ne hc) h1

end Go.Proofs.Ytjhkadffaephmab
