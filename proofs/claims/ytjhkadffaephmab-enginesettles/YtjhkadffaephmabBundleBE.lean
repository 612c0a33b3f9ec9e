/-
  Our own texts, bundled: a claim holds few files.
-/
import Derived.Test.YtjhkadffaephmabBundleAH
import Derived.Test.YtjhkadffaephmabBundleAI
import Derived.Test.YtjhkadffaephmabBundleCI
/-
  Nets: plain mathematics. What a round makes, and that strict algebras settle, always to the same.
-/
namespace Go.Proofs.Ytjhkadffaephmab

/-- A net by its numbers. -/
structure Net where
  a : Alg
  nodes : Int
  ln : Nat
  F : Nat → Int
  T : Nat → Int
  E : Nat → Int

/-- Is there a link ahead of it with the same ends? -/
def Net.twice (n : Net) (i : Nat) : Bool := (List.range i).any fun k => n.F k == n.F i && n.T k == n.T i
def Net.linkErr (n : Net) (i : Nat) : Int :=
  if (n.F i < 0 ∨ n.nodes ≤ n.F i) ∨ (n.T i < 0 ∨ n.nodes ≤ n.T i) ∨ (n.E i < 0 ∨ (n.a.E.len : Int) ≤ n.E i) then 5
  else if n.F i = n.T i then 1 else if n.twice i = true then 6 else 0
def Net.check (n : Net) : Int :=
  if n.a.check ≠ 0 then n.a.check else if (n.a.tell [1, 2, 3, 4, 5, 6, 7]).law ≠ 0 then 4
  else if n.nodes < 1 ∨ 6 < n.nodes then 3 else firstErr n.linkErr n.ln
def Net.rows (n : Net) (t : Tab) : Int :=
  if (t.len : Int) ≠ n.nodes ∨ t.wide n.nodes = false then 1 else if t.routes n.a.size = false then 5 else 0
def Net.fit (n : Net) (t : Tab) : Int := if n.check = 0 then n.rows t else n.check

/-- The edge of the link between two nodes; -1: there is none. -/
def Net.edge (n : Net) (i k : Int) : Int := (((List.range n.ln).find? fun l => n.F l == i && n.T l == k).map n.E).getD (-1)

/-- The route of i to j, when so many nodes were looked at. -/
def Net.out (n : Net) (i j : Nat) (has : Nat → Int) : Nat → Int
  | 0 => if i = j then 0 else n.a.size - 1
  | k + 1 => if 0 ≤ n.edge i k then n.a.B.get (n.out i j has k) (n.a.E.get (n.edge i k) (has k)) else n.out i j has k
def Net.N (n : Net) : Nat := n.nodes.toNat
def Net.route (n : Net) (i j : Nat) (has : Nat → Int) : Int := n.out i j has n.N
def Net.round (n : Net) (x : Nat → Nat → Int) (i j : Nat) : Int := n.route i j (fun k => x k j)
def Net.begin (n : Net) (i j : Nat) : Int := if i = j then 0 else n.a.size - 1
/-- So many rounds. -/
def Net.iter (n : Net) : Nat → (Nat → Nat → Int) → Nat → Nat → Int
  | 0, x => x
  | k + 1, x => n.iter k (n.round x)
def Net.same (n : Net) (x y : Nat → Nat → Int) : Bool := (List.range n.N).all fun i => (List.range n.N).all fun j => x i j == y i j
def Net.settle (n : Net) : Nat → (Nat → Nat → Int) → (Nat → Nat → Int) × Nat
  | 0, x => (x, 0)
  | m + 1, x => if n.same x (n.round x) = true then (x, 0) else ((n.settle m (n.round x)).1, (n.settle m (n.round x)).2 + 1)

theorem Net.same_iff {n : Net} {x y : Nat → Nat → Int} : n.same x y = true ↔ ∀ i j, i < n.N → j < n.N → x i j = y i j := by
  simp only [Net.same, List.all_eq_true, List.mem_range, beq_iff_eq]
  exact ⟨fun h i j hi hj => h i hi j hj, fun h i hi j hj => h i j hi hj⟩

/-- An algebra that breaks none of its laws. -/
structure Alg.Lawful (a : Alg) : Prop where
  good : a.Good
  comm : ∀ x y, 0 ≤ x → x < a.size → 0 ≤ y → y < a.size → a.B.get x y = a.B.get y x
  assoc : ∀ x y z, 0 ≤ x → x < a.size → 0 ≤ y → y < a.size → 0 ≤ z → z < a.size → a.B.get x (a.B.get y z) = a.B.get (a.B.get x y) z
  sel : ∀ x y, 0 ≤ x → x < a.size → 0 ≤ y → y < a.size → a.B.get x y = x ∨ a.B.get x y = y
  zero : ∀ x, 0 ≤ x → x < a.size → a.B.get 0 x = 0
  last : ∀ x, 0 ≤ x → x < a.size → a.B.get (a.size - 1) x = x
  elast : ∀ e : Int, 0 ≤ e → e < a.E.len → a.E.get e (a.size - 1) = a.size - 1
  incr : ∀ e x : Int, 0 ≤ e → e < a.E.len → 0 ≤ x → x < a.size → a.B.get x (a.E.get e x) = x

theorem tell_law_none {a : Alg} (hc : a.check = 0) (h : (a.tell [1, 2, 3, 4, 5, 6, 7]).law = 0) : a.tell [1, 2, 3, 4, 5, 6, 7] = Brk.none := by
  apply Classical.byContradiction
  intro hn
  have := tell_broken hc hn
  omega

theorem Alg.Lawful.of {a : Alg} (hc : a.check = 0) (h : (a.tell [1, 2, 3, 4, 5, 6, 7]).law = 0) : a.Lawful := by
  have g := Alg.good_of_check hc
  have lo := g.lo
  have t := tell_law_none hc h
  have key : ∀ b : Brk, a.Fits b → b.law ≤ 7 → a.holds b = true := fun b f hl => tell_none t (holdsE_fit hc f) hl
  refine ⟨g, ?_, ?_, ?_, ?_, ?_, ?_, ?_⟩
  · intro x y h0 h1 h2 h3
    have := key ⟨1, x, y, 0, 0⟩ ⟨by simp, by simp, h0, by simp [spanA, routesOf]; omega, h2, by simp [spanB, routesOf]; omega, by simp, by simp [spanC, routesOf], by simp, by simp [spanE, edgeOf]⟩ (by simp)
    simpa [Alg.holds] using this
  · intro x y z h0 h1 h2 h3 h4 h5
    have := key ⟨2, x, y, z, 0⟩ ⟨by simp, by simp, h0, by simp [spanA, routesOf]; omega, h2, by simp [spanB, routesOf]; omega, h4, by simp [spanC, routesOf]; omega, by simp, by simp [spanE, edgeOf]⟩ (by simp)
    simpa [Alg.holds] using this
  · intro x y h0 h1 h2 h3
    have := key ⟨3, x, y, 0, 0⟩ ⟨by simp, by simp, h0, by simp [spanA, routesOf]; omega, h2, by simp [spanB, routesOf]; omega, by simp, by simp [spanC, routesOf], by simp, by simp [spanE, edgeOf]⟩ (by simp)
    simpa [Alg.holds] using this
  · intro x h0 h1
    have := key ⟨4, x, 0, 0, 0⟩ ⟨by simp, by simp, h0, by simp [spanA, routesOf]; omega, by simp, by simp [spanB, routesOf], by simp, by simp [spanC, routesOf], by simp, by simp [spanE, edgeOf]⟩ (by simp)
    simpa [Alg.holds] using this
  · intro x h0 h1
    have := key ⟨5, x, 0, 0, 0⟩ ⟨by simp, by simp, h0, by simp [spanA, routesOf]; omega, by simp, by simp [spanB, routesOf], by simp, by simp [spanC, routesOf], by simp, by simp [spanE, edgeOf]⟩ (by simp)
    simpa [Alg.holds] using this
  · intro e h0 h1
    have := key ⟨6, 0, 0, 0, e⟩ ⟨by simp, by simp, by simp, by simp [spanA, routesOf], by simp, by simp [spanB, routesOf], by simp, by simp [spanC, routesOf], h0, by simp [spanE, edgeOf]; omega⟩ (by simp)
    simpa [Alg.holds] using this
  · intro e x h0 h1 h2 h3
    have := key ⟨7, x, 0, 0, e⟩ ⟨by simp, by simp, h2, by simp [spanA, routesOf]; omega, by simp, by simp [spanB, routesOf], by simp, by simp [spanC, routesOf], h0, by simp [spanE, edgeOf]; omega⟩ (by simp)
    simpa [Alg.holds] using this

/-- No edge keeps a route, but the last. -/
def Alg.Strict (a : Alg) : Prop := ∀ e x : Int, 0 ≤ e → e < a.E.len → 0 ≤ x → x < a.size - 1 → a.E.get e x ≠ x

theorem Alg.Strict.of {a : Alg} (hc : a.check = 0) (h : (a.tell [8]).law = 0) : a.Strict := by
  have g := Alg.good_of_check hc
  have ht : a.tell [8] = a.firstOf [8] := by unfold Alg.tell; rw [if_pos hc]
  have hn : a.firstOf [8] = Brk.none := by
    apply Classical.byContradiction
    intro hne
    obtain ⟨l, hl, _, h2, _⟩ := firstOf_spec hne
    have hl' : l = 8 := by simpa using hl
    obtain ⟨_, e⟩ := g.fits_cases (by omega) (by omega) h2
    rw [ht] at h
    omega
  intro e x h0 h1 h2 h3
  have f : a.Fits ⟨8, x, 0, 0, e⟩ := ⟨by simp, by simp, h2, by simp [spanA, routesOf]; omega, by simp, by simp [spanB, routesOf], by simp, by simp [spanC, routesOf], h0, by simp [spanE, edgeOf]; omega⟩
  have hh := firstOf_all (by simp) hn 8 (by simp) _ (g.mem_cases f)
  simp [Alg.holds] at hh
  rcases hh with hh | hh
  · omega
  · exact hh.2

section
variable {a : Alg}

/-- How many are better. -/
def Alg.rank (a : Alg) (x : Int) : Nat := (List.range a.size.toNat).countP fun (c : Nat) => a.B.get (c : Int) x == (c : Int) && (c : Int) != x

theorem countP_lt {p q : Nat → Bool} : ∀ {l : List Nat}, (∀ c ∈ l, p c = true → q c = true) → (∃ c ∈ l, p c = false ∧ q c = true) → l.countP p < l.countP q
  | [], _, h => by simp at h
  | c :: l, h1, h2 => by
    have hl : l.countP p ≤ l.countP q := List.countP_mono_left (fun d hd => h1 d (by simp [hd]))
    rw [List.countP_cons, List.countP_cons]
    obtain ⟨d, hd, e1, e2⟩ := h2
    rcases List.mem_cons.1 hd with rfl | hd
    · rw [e1, e2]; simp; omega
    · have := countP_lt (fun d hd => h1 d (by simp [hd])) ⟨d, hd, e1, e2⟩
      have hc := h1 c (by simp)
      cases hp : p c with
      | true => rw [hc hp]; simp; omega
      | false => cases hq : q c <;> simp <;> omega

/-- Better, and another. -/
def Alg.lt (a : Alg) (x y : Int) : Prop := a.B.get x y = x ∧ x ≠ y

theorem Alg.Lawful.lt_total (h : a.Lawful) {x y : Int} (h0 : 0 ≤ x) (h1 : x < a.size) (h2 : 0 ≤ y) (h3 : y < a.size) (hn : x ≠ y) : a.lt x y ∨ a.lt y x := by
  rcases h.sel x y h0 h1 h2 h3 with e | e
  · exact Or.inl ⟨e, hn⟩
  · exact Or.inr ⟨by rw [h.comm y x h2 h3 h0 h1, e], Ne.symm hn⟩
theorem Alg.Lawful.le_trans (h : a.Lawful) {x y z : Int} (h0 : 0 ≤ x) (h1 : x < a.size) (h2 : 0 ≤ y) (h3 : y < a.size) (h4 : 0 ≤ z) (h5 : z < a.size) (e1 : a.B.get x y = x) (e2 : a.B.get y z = y) : a.B.get x z = x := by
  have := h.assoc x y z h0 h1 h2 h3 h4 h5
  rw [e2, e1] at this
  exact this.symm
theorem Alg.Lawful.le_anti (h : a.Lawful) {x y : Int} (h0 : 0 ≤ x) (h1 : x < a.size) (h2 : 0 ≤ y) (h3 : y < a.size) (e1 : a.B.get x y = x) (e2 : a.B.get y x = y) : x = y := by
  rw [← e1, h.comm x y h0 h1 h2 h3, e2]

theorem Alg.Lawful.rank_lt (h : a.Lawful) {x y : Int} (h0 : 0 ≤ x) (h1 : x < a.size) (h2 : 0 ≤ y) (h3 : y < a.size) (hl : a.lt x y) : a.rank x < a.rank y := by
  have lo := h.good.lo
  refine countP_lt (fun c hc hp => ?_) ⟨x.toNat, by simp; omega, ?_, ?_⟩
  · simp only [List.mem_range] at hc
    simp only [Bool.and_eq_true, beq_iff_eq, bne_iff_ne] at hp ⊢
    obtain ⟨p1, p2⟩ := hp
    have c1 : (c : Int) < a.size := by omega
    refine ⟨h.le_trans (by omega) c1 h0 h1 h2 h3 p1 hl.1, fun e => ?_⟩
    subst e
    exact hl.2 (h.le_anti h0 h1 (by omega) c1 hl.1 p1)
  · have e : ((x.toNat : Nat) : Int) = x := by omega
    simp [e]
  · have e : ((x.toNat : Nat) : Int) = x := by omega
    simp only [e, Bool.and_eq_true, beq_iff_eq, bne_iff_ne]
    exact hl
theorem Alg.Lawful.rank_le (h : a.Lawful) {x : Int} (h0 : 0 ≤ x) (h1 : x < a.size) : a.rank x < a.size.toNat := by
  have lo := h.good.lo
  have : a.rank x < (List.range a.size.toNat).countP (fun _ => true) := by
    refine countP_lt (fun _ _ _ => rfl) ⟨x.toNat, by simp; omega, ?_, rfl⟩
    have e : ((x.toNat : Nat) : Int) = x := by omega
    simp [e]
  simpa using this
end

/-- A net that passes Check. -/
structure Net.Good (n : Net) : Prop where
  law : n.a.Lawful
  lo : 1 ≤ n.nodes
  hi : n.nodes ≤ 6
  link : ∀ i, i < n.ln → 0 ≤ n.F i ∧ n.F i < n.nodes ∧ 0 ≤ n.T i ∧ n.T i < n.nodes ∧ 0 ≤ n.E i ∧ n.E i < n.a.E.len

theorem Net.good_of_check {n : Net} (h : n.check = 0) : n.Good := by
  unfold Net.check at h
  by_cases h1 : n.a.check = 0
  · rw [if_neg (by simp [h1])] at h
    by_cases h2 : (n.a.tell [1, 2, 3, 4, 5, 6, 7]).law = 0
    · rw [if_neg (by simp [h2])] at h
      by_cases h3 : n.nodes < 1 ∨ 6 < n.nodes
      · rw [if_pos h3] at h; cases h
      · rw [if_neg h3] at h
        refine ⟨Alg.Lawful.of h1 h2, by omega, by omega, fun i hi => ?_⟩
        have := firstErr_zero.1 h i hi
        unfold Net.linkErr at this
        split at this
        · cases this
        · omega
    · rw [if_pos h2] at h; cases h
  · rw [if_pos h1] at h; exact absurd h h1

theorem Net.edge_lt {n : Net} (g : n.Good) (i k : Int) : n.edge i k < n.a.E.len := by
  unfold Net.edge
  cases hf : (List.range n.ln).find? fun l => n.F l == i && n.T l == k with
  | none => simp; omega
  | some l =>
    have := List.mem_of_find?_eq_some hf
    simp only [List.mem_range] at this
    simpa using (g.link l this).2.2.2.2.2

/-- Each is a route. -/
def Net.Routes (n : Net) (f : Nat → Int) : Prop := ∀ k, k < n.N → 0 ≤ f k ∧ f k < n.a.size

section
variable {n : Net}

theorem Net.cand {n : Net} (g : n.Good) {f : Nat → Int} (hf : n.Routes f) {i : Int} {k : Nat} (hk : k < n.N) (he : 0 ≤ n.edge i k) : 0 ≤ n.a.E.get (n.edge i k) (f k) ∧ n.a.E.get (n.edge i k) (f k) < n.a.size :=
  g.law.good.edge he (n.edge_lt g i k) (hf k hk).1 (hf k hk).2

/-- What a route is, and that none is better. -/
theorem Net.out_spec (g : n.Good) {f : Nat → Int} (hf : n.Routes f) (i j : Nat) : ∀ m, m ≤ n.N →
    (0 ≤ n.out i j f m ∧ n.out i j f m < n.a.size) ∧
    (n.out i j f m = n.out i j f 0 ∨ ∃ k, k < m ∧ 0 ≤ n.edge i k ∧ n.out i j f m = n.a.E.get (n.edge i k) (f k)) ∧
    n.a.B.get (n.out i j f m) (n.out i j f 0) = n.out i j f m ∧
    ∀ k, k < m → 0 ≤ n.edge i k → n.a.B.get (n.out i j f m) (n.a.E.get (n.edge i k) (f k)) = n.out i j f m := by
  have lo := g.law.good.lo
  intro m
  induction m with
  | zero =>
    intro _
    have h0 : 0 ≤ n.out i j f 0 ∧ n.out i j f 0 < n.a.size := by
      unfold Net.out
      split <;> omega
    refine ⟨h0, Or.inl rfl, ?_, fun k hk => absurd hk (Nat.not_lt_zero _)⟩
    rcases g.law.sel _ _ h0.1 h0.2 h0.1 h0.2 with e | e <;> exact e
  | succ m ih =>
    intro hm
    obtain ⟨r, s, t, u⟩ := ih (by omega)
    have h0 : 0 ≤ n.out i j f 0 ∧ n.out i j f 0 < n.a.size := by
      simp only [Net.out]
      split <;> omega
    by_cases he : 0 ≤ n.edge i m
    · have e : n.out i j f (m + 1) = n.a.B.get (n.out i j f m) (n.a.E.get (n.edge i m) (f m)) := by
        rw [Net.out, if_pos he]
      obtain ⟨c0, c1⟩ := n.cand g hf (i := i) (k := m) (by omega) he
      generalize hc : n.a.E.get (n.edge i m) (f m) = c at *
      generalize n.out i j f m = o at *
      rw [e]
      rcases g.law.sel o c r.1 r.2 c0 c1 with e1 | e1
      · rw [e1]
        refine ⟨r, ?_, t, fun k hk hek => ?_⟩
        · rcases s with s | ⟨k, hk, s1, s2⟩
          · exact Or.inl s
          · exact Or.inr ⟨k, by omega, s1, s2⟩
        · by_cases ek : k = m
          · subst ek; rw [hc]; exact e1
          · exact u k (by omega) hek
      · rw [e1]
        have hco : n.a.B.get c o = c := by rw [g.law.comm c o c0 c1 r.1 r.2, e1]
        refine ⟨⟨c0, c1⟩, Or.inr ⟨m, by omega, he, hc.symm⟩, g.law.le_trans c0 c1 r.1 r.2 h0.1 h0.2 hco t, fun k hk hek => ?_⟩
        by_cases ek : k = m
        · subst ek
          rw [hc]
          rcases g.law.sel c c c0 c1 c0 c1 with e2 | e2 <;> exact e2
        · obtain ⟨d0, d1⟩ := n.cand g hf (i := i) (k := k) (by omega) hek
          exact g.law.le_trans c0 c1 r.1 r.2 d0 d1 hco (u k (by omega) hek)
    · have e : n.out i j f (m + 1) = n.out i j f m := by rw [Net.out, if_neg he]
      rw [e]
      refine ⟨r, ?_, t, fun k hk hek => ?_⟩
      · rcases s with s | ⟨k, hk, s1, s2⟩
        · exact Or.inl s
        · exact Or.inr ⟨k, by omega, s1, s2⟩
      · by_cases ek : k = m
        · subst ek; exact absurd hek he
        · exact u k (by omega) hek

theorem Net.route_in (g : n.Good) {f : Nat → Int} (hf : n.Routes f) (i j : Nat) : 0 ≤ n.route i j f ∧ n.route i j f < n.a.size := (n.out_spec g hf i j n.N (Nat.le_refl _)).1

/-- Where they part, both are of at least that rank. -/
def Net.Near (n : Net) (m : Nat) (f h : Nat → Int) : Prop := ∀ k, k < n.N → f k = h k ∨ (m ≤ n.a.rank (f k) ∧ m ≤ n.a.rank (h k))

theorem Net.near_lt (g : n.Good) (hs : n.a.Strict) {f h : Nat → Int} (hf : n.Routes f) (hh : n.Routes h) {m : Nat} (hn : n.Near m f h) (i j : Nat) (hl : n.a.lt (n.route i j f) (n.route i j h)) : m + 1 ≤ n.a.rank (n.route i j f) := by
  have lo := g.law.good.lo
  obtain ⟨r, s, t, u⟩ := n.out_spec g hf i j n.N (Nat.le_refl _)
  obtain ⟨r', s', t', u'⟩ := n.out_spec g hh i j n.N (Nat.le_refl _)
  unfold Net.route at *
  rcases s with s | ⟨k, hk, s1, s2⟩
  · exfalso
    have e0 : n.out i j h 0 = n.out i j f 0 := rfl
    rw [e0, ← s] at t'
    exact hl.2 (g.law.le_anti r.1 r.2 r'.1 r'.2 hl.1 t')
  · rcases hn k hk with e | ⟨e, _⟩
    · exfalso
      have := u' k hk s1
      rw [← e, ← s2] at this
      exact hl.2 (g.law.le_anti r.1 r.2 r'.1 r'.2 hl.1 this)
    · obtain ⟨f0, f1⟩ := hf k hk
      by_cases e9 : f k = n.a.size - 1
      · exfalso
        rw [e9, g.law.elast _ s1 (n.edge_lt g i k)] at s2
        have := g.law.last _ r'.1 r'.2
        rw [← s2] at this
        exact hl.2 (hl.1.symm.trans this)
      · have l1 : n.a.lt (f k) (n.out i j f n.N) := by
          rw [s2]
          exact ⟨g.law.incr _ _ s1 (n.edge_lt g i k) f0 f1, Ne.symm (hs _ _ s1 (n.edge_lt g i k) f0 (by omega))⟩
        have := g.law.rank_lt f0 f1 r.1 r.2 l1
        omega

theorem Net.near_succ (g : n.Good) (hs : n.a.Strict) {f h : Nat → Int} (hf : n.Routes f) (hh : n.Routes h) {m : Nat} (hn : n.Near m f h) (i j : Nat) :
    n.route i j f = n.route i j h ∨ (m + 1 ≤ n.a.rank (n.route i j f) ∧ m + 1 ≤ n.a.rank (n.route i j h)) := by
  by_cases e : n.route i j f = n.route i j h
  · exact Or.inl e
  · obtain ⟨r0, r1⟩ := n.route_in g hf i j
    obtain ⟨q0, q1⟩ := n.route_in g hh i j
    right
    rcases g.law.lt_total r0 r1 q0 q1 e with hl | hl
    · have a1 := n.near_lt g hs hf hh hn i j hl
      have a2 := g.law.rank_lt r0 r1 q0 q1 hl
      omega
    · have a1 := n.near_lt g hs hh hf (fun k hk => by
        rcases hn k hk with e | ⟨e1, e2⟩
        · exact Or.inl e.symm
        · exact Or.inr ⟨e2, e1⟩) i j hl
      have a2 := g.law.rank_lt q0 q1 r0 r1 hl
      omega

theorem Net.near_end (g : n.Good) {f h : Nat → Int} (hf : n.Routes f) (hh : n.Routes h) {m : Nat} (hn : n.Near m f h) (hm : n.a.size ≤ m + 1) : ∀ k, k < n.N → f k = h k := by
  intro k hk
  rcases hn k hk with e | ⟨e1, e2⟩
  · exact e
  · apply Classical.byContradiction
    intro hne
    obtain ⟨f0, f1⟩ := hf k hk
    obtain ⟨h0, h1⟩ := hh k hk
    have b1 := g.law.rank_le f0 f1
    have b2 := g.law.rank_le h0 h1
    rcases g.law.lt_total f0 f1 h0 h1 hne with hl | hl
    · have := g.law.rank_lt f0 f1 h0 h1 hl
      omega
    · have := g.law.rank_lt h0 h1 f0 f1 hl
      omega

/-- A state of routes. -/
def Net.State (n : Net) (x : Nat → Nat → Int) : Prop := ∀ i j, i < n.N → j < n.N → 0 ≤ x i j ∧ x i j < n.a.size

theorem Net.State.round (g : n.Good) {x : Nat → Nat → Int} (hx : n.State x) : n.State (n.round x) := fun i j _ hj => n.route_in g (fun k hk => hx k j hk hj) i j
theorem Net.State.iter (g : n.Good) {x : Nat → Nat → Int} (hx : n.State x) : ∀ m, n.State (n.iter m x) := by
  intro m
  induction m generalizing x with
  | zero => exact hx
  | succ m ih => exact ih (hx.round g)

theorem Net.out_congr {f h : Nat → Int} (e : ∀ k, k < n.N → f k = h k) (i j : Nat) : ∀ m, m ≤ n.N → n.out i j f m = n.out i j h m := by
  intro m
  induction m with
  | zero => intro _; rfl
  | succ m ih =>
    intro hm
    simp only [Net.out]
    rw [ih (by omega), e m (by omega)]
theorem Net.round_congr {x y : Nat → Nat → Int} (e : ∀ i j, i < n.N → j < n.N → x i j = y i j) : ∀ i j, i < n.N → j < n.N → n.round x i j = n.round y i j :=
  fun i j _ hj => n.out_congr (fun k hk => e k j hk hj) i j n.N (Nat.le_refl _)
theorem Net.iter_congr {x y : Nat → Nat → Int} (e : ∀ i j, i < n.N → j < n.N → x i j = y i j) : ∀ m i j, i < n.N → j < n.N → n.iter m x i j = n.iter m y i j := by
  intro m
  induction m generalizing x y with
  | zero => exact e
  | succ m ih => exact ih (n.round_congr e)
theorem Net.iter_round (x : Nat → Nat → Int) : ∀ m, n.iter m (n.round x) = n.round (n.iter m x) := by
  intro m
  induction m generalizing x with
  | zero => rfl
  | succ m ih => exact ih (n.round x)
theorem Net.iter_add (x : Nat → Nat → Int) (k : Nat) : ∀ m, n.iter (m + k) x = n.iter k (n.iter m x) := by
  intro m
  induction m generalizing x with
  | zero => rw [Nat.zero_add]; rfl
  | succ m ih => rw [show m + 1 + k = (m + k) + 1 by omega]; exact ih (n.round x)

theorem Net.iter_near (g : n.Good) (hs : n.a.Strict) {x y : Nat → Nat → Int} (hx : n.State x) (hy : n.State y) : ∀ m, ∀ j, j < n.N → n.Near m (fun k => n.iter m x k j) (fun k => n.iter m y k j) := by
  intro m
  induction m with
  | zero => exact fun j _ k _ => Or.inr ⟨Nat.zero_le _, Nat.zero_le _⟩
  | succ m ih =>
    intro j hj k hk
    show n.iter m (n.round x) k j = n.iter m (n.round y) k j ∨ _
    show _ ∨ (m + 1 ≤ n.a.rank (n.iter m (n.round x) k j) ∧ m + 1 ≤ n.a.rank (n.iter m (n.round y) k j))
    rw [n.iter_round, n.iter_round]
    exact n.near_succ g hs (fun k hk => hx.iter g m k j hk hj) (fun k hk => hy.iter g m k j hk hj) (ih j hj) k j

/-- Behind Size less 1 rounds all are the same. -/
theorem Net.iter_same (g : n.Good) (hs : n.a.Strict) {x y : Nat → Nat → Int} (hx : n.State x) (hy : n.State y) {m : Nat} (hm : n.a.size ≤ m + 1) : ∀ i j, i < n.N → j < n.N → n.iter m x i j = n.iter m y i j :=
  fun i j hi hj => n.near_end g (fun k hk => hx.iter g m k j hk hj) (fun k hk => hy.iter g m k j hk hj) (n.iter_near g hs hx hy m j hj) hm i hi

theorem Net.settle_iter (x : Nat → Nat → Int) : ∀ m, (n.settle m x).1 = n.iter (n.settle m x).2 x ∧ (n.settle m x).2 ≤ m ∧ ((n.settle m x).2 < m → n.same (n.settle m x).1 (n.round (n.settle m x).1) = true) ∧ ∀ k, k < (n.settle m x).2 → n.same (n.iter k x) (n.round (n.iter k x)) = false := by
  intro m
  induction m generalizing x with
  | zero => exact ⟨rfl, Nat.le_refl _, fun h => absurd h (Nat.not_lt_zero _), fun k hk => absurd hk (Nat.not_lt_zero _)⟩
  | succ m ih =>
    unfold Net.settle
    by_cases h : n.same x (n.round x) = true
    · rw [if_pos h]
      exact ⟨rfl, Nat.zero_le _, fun _ => h, fun k hk => absurd hk (Nat.not_lt_zero _)⟩
    · rw [if_neg h]
      obtain ⟨i1, i2, i3, i4⟩ := ih (n.round x)
      refine ⟨i1, Nat.succ_le_succ i2, fun h' => i3 (Nat.lt_of_succ_lt_succ h'), fun k hk => ?_⟩
      cases k with
      | zero => show n.same x (n.round x) = false; simpa using h
      | succ k => exact i4 k (Nat.lt_of_succ_lt_succ hk)

/-- If the algebra is strict, it settles, by at most Size less 1 rounds, and always to the same. -/
theorem Net.settle_strict (g : n.Good) (hs : n.a.Strict) {x : Nat → Nat → Int} (hx : n.State x) {m : Nat} (hm : n.a.size ≤ m) :
    ((n.settle m x).2 : Int) ≤ n.a.size - 1 ∧ n.State (n.settle m x).1 ∧ ∀ i j, i < n.N → j < n.N → n.round (n.settle m x).1 i j = (n.settle m x).1 i j := by
  have lo := g.law.good.lo
  obtain ⟨h1, h2, h3, h4⟩ := n.settle_iter x m
  have hk : ((n.settle m x).2 : Int) ≤ n.a.size - 1 := by
    apply Classical.byContradiction
    intro hn
    obtain ⟨t, ht⟩ : ∃ t : Nat, (t : Int) = n.a.size - 1 := ⟨(n.a.size - 1).toNat, by omega⟩
    have := h4 t (by omega)
    have hsm : n.same (n.iter t x) (n.round (n.iter t x)) = true := Net.same_iff.2 (fun i j hi hj => by
      rw [← n.iter_round]
      exact n.iter_same g hs hx (hx.round g) (by omega) i j hi hj)
    rw [hsm] at this
    cases this
  refine ⟨hk, by rw [h1]; exact hx.iter g _, fun i j hi hj => ?_⟩
  exact (Net.same_iff.1 (h3 (by omega)) i j hi hj).symm

theorem Net.fix_iter {p : Nat → Nat → Int} (h : ∀ i j, i < n.N → j < n.N → n.round p i j = p i j) : ∀ m i j, i < n.N → j < n.N → n.iter m p i j = p i j := by
  intro m
  induction m with
  | zero => exact fun i j _ _ => rfl
  | succ m ih =>
    intro i j hi hj
    show n.iter m (n.round p) i j = p i j
    rw [n.iter_congr h m i j hi hj]
    exact ih i j hi hj

theorem Net.fix_one (g : n.Good) (hs : n.a.Strict) {p q : Nat → Nat → Int} (hp : n.State p) (hq : n.State q) (h1 : ∀ i j, i < n.N → j < n.N → n.round p i j = p i j) (h2 : ∀ i j, i < n.N → j < n.N → n.round q i j = q i j) :
    ∀ i j, i < n.N → j < n.N → p i j = q i j := fun i j hi hj => by
  have := n.iter_same g hs hp hq (m := n.a.size.toNat) (by omega) i j hi hj
  rw [n.fix_iter h1 _ i j hi hj, n.fix_iter h2 _ i j hi hj] at this
  exact this
end

end Go.Proofs.Ytjhkadffaephmab

/-
  Nets: plain mathematics. Looking at all links, in whatever order, comes to what looking at all nodes does.
-/
namespace Go.Proofs.Ytjhkadffaephmab

/-- The route of i to j, when so many links were looked at. -/
def Net.look (n : Net) (i j : Nat) (has : Nat → Int) : Nat → Int
  | 0 => if i = j then 0 else n.a.size - 1
  | l + 1 => if n.F l = i then n.a.B.get (n.look i j has l) (n.a.E.get (n.E l) (has (n.T l).toNat)) else n.look i j has l

section
variable {n : Net}

theorem Net.once (h : n.check = 0) {l k : Nat} (hl : l < n.ln) (hk : k < l) : ¬ (n.F k = n.F l ∧ n.T k = n.T l) := by
  unfold Net.check at h
  by_cases h1 : n.a.check = 0
  · rw [if_neg (by simp [h1])] at h
    by_cases h2 : (n.a.tell [1, 2, 3, 4, 5, 6, 7]).law = 0
    · rw [if_neg (by simp [h2])] at h
      by_cases h3 : n.nodes < 1 ∨ 6 < n.nodes
      · rw [if_pos h3] at h; cases h
      · rw [if_neg h3] at h
        have := firstErr_zero.1 h l hl
        unfold Net.linkErr at this
        split at this
        · cases this
        · split at this
          · cases this
          · split at this
            · cases this
            · next ht =>
              intro ⟨e1, e2⟩
              apply ht
              unfold Net.twice
              rw [List.any_eq_true]
              exact ⟨k, by simpa using hk, by simp [e1, e2]⟩
    · rw [if_pos h2] at h; cases h
  · rw [if_pos h1] at h; exact absurd h h1

theorem Net.edge_link (h : n.check = 0) {l : Nat} (hl : l < n.ln) : n.edge (n.F l) (n.T l) = n.E l := by
  unfold Net.edge
  have : (List.range n.ln).find? (fun k => n.F k == n.F l && n.T k == n.T l) = some l := by
    rw [List.find?_range_eq_some]
    refine ⟨by simp, by simpa using hl, fun j hj => ?_⟩
    have := n.once h hl hj
    simp only [Bool.not_eq_true', Bool.and_eq_false_iff, beq_eq_false_iff_ne]
    exact Classical.byContradiction fun hc => this ⟨Classical.byContradiction fun e => hc (Or.inl e), Classical.byContradiction fun e => hc (Or.inr e)⟩
  rw [this]
  rfl

theorem Net.link_edge {i k : Int} (he : 0 ≤ n.edge i k) : ∃ l, l < n.ln ∧ n.F l = i ∧ n.T l = k ∧ n.E l = n.edge i k := by
  unfold Net.edge at he ⊢
  cases hf : (List.range n.ln).find? (fun l => n.F l == i && n.T l == k) with
  | none => rw [hf] at he; simp at he
  | some l =>
    have h1 := List.mem_of_find?_eq_some hf
    have h2 := List.find?_some hf
    simp at h1 h2
    exact ⟨l, h1, h2.1, h2.2, rfl⟩

theorem Net.look_spec (g : n.Good) {f : Nat → Int} (hf : n.Routes f) (i j : Nat) : ∀ m, m ≤ n.ln →
    (0 ≤ n.look i j f m ∧ n.look i j f m < n.a.size) ∧
    (n.look i j f m = n.look i j f 0 ∨ ∃ l, l < m ∧ n.F l = i ∧ n.look i j f m = n.a.E.get (n.E l) (f (n.T l).toNat)) ∧
    n.a.B.get (n.look i j f m) (n.look i j f 0) = n.look i j f m ∧
    ∀ l, l < m → n.F l = i → n.a.B.get (n.look i j f m) (n.a.E.get (n.E l) (f (n.T l).toNat)) = n.look i j f m := by
  have lo := g.law.good.lo
  intro m
  induction m with
  | zero =>
    intro _
    have h0 : 0 ≤ n.look i j f 0 ∧ n.look i j f 0 < n.a.size := by
      unfold Net.look
      split <;> omega
    refine ⟨h0, Or.inl rfl, ?_, fun k hk => absurd hk (Nat.not_lt_zero _)⟩
    rcases g.law.sel _ _ h0.1 h0.2 h0.1 h0.2 with e | e <;> exact e
  | succ m ih =>
    intro hm
    obtain ⟨r, s, t, u⟩ := ih (by omega)
    have h0 : 0 ≤ n.look i j f 0 ∧ n.look i j f 0 < n.a.size := by
      simp only [Net.look]
      split <;> omega
    have cnd : ∀ l, l < n.ln → 0 ≤ n.a.E.get (n.E l) (f (n.T l).toNat) ∧ n.a.E.get (n.E l) (f (n.T l).toNat) < n.a.size := fun l hl => by
      have := g.link l hl
      have ht : (n.T l).toNat < n.N := by unfold Net.N; omega
      exact g.law.good.edge this.2.2.2.2.1 this.2.2.2.2.2 (hf _ ht).1 (hf _ ht).2
    by_cases he : n.F m = i
    · have e : n.look i j f (m + 1) = n.a.B.get (n.look i j f m) (n.a.E.get (n.E m) (f (n.T m).toNat)) := by
        rw [Net.look, if_pos he]
      obtain ⟨c0, c1⟩ := cnd m (by omega)
      generalize hc : n.a.E.get (n.E m) (f (n.T m).toNat) = c at *
      generalize n.look i j f m = o at *
      rw [e]
      rcases g.law.sel o c r.1 r.2 c0 c1 with e1 | e1
      · rw [e1]
        refine ⟨r, ?_, t, fun k hk hek => ?_⟩
        · rcases s with s | ⟨k, hk, s1, s2⟩
          · exact Or.inl s
          · exact Or.inr ⟨k, by omega, s1, s2⟩
        · by_cases ek : k = m
          · subst ek; rw [hc]; exact e1
          · exact u k (by omega) hek
      · rw [e1]
        have hco : n.a.B.get c o = c := by rw [g.law.comm c o c0 c1 r.1 r.2, e1]
        refine ⟨⟨c0, c1⟩, Or.inr ⟨m, by omega, he, hc.symm⟩, g.law.le_trans c0 c1 r.1 r.2 h0.1 h0.2 hco t, fun k hk hek => ?_⟩
        by_cases ek : k = m
        · subst ek
          rw [hc]
          rcases g.law.sel c c c0 c1 c0 c1 with e2 | e2 <;> exact e2
        · obtain ⟨d0, d1⟩ := cnd k (by omega)
          exact g.law.le_trans c0 c1 r.1 r.2 d0 d1 hco (u k (by omega) hek)
    · have e : n.look i j f (m + 1) = n.look i j f m := by rw [Net.look, if_neg he]
      rw [e]
      refine ⟨r, ?_, t, fun k hk hek => ?_⟩
      · rcases s with s | ⟨k, hk, s1, s2⟩
        · exact Or.inl s
        · exact Or.inr ⟨k, by omega, s1, s2⟩
      · by_cases ek : k = m
        · subst ek; exact absurd hek he
        · exact u k (by omega) hek

/-- The order is nothing. -/
theorem Net.look_route (h : n.check = 0) {f : Nat → Int} (hf : n.Routes f) (i j : Nat) : n.look i j f n.ln = n.route i j f := by
  have g := Net.good_of_check h
  obtain ⟨r, s, t, u⟩ := n.look_spec g hf i j n.ln (Nat.le_refl _)
  obtain ⟨r', s', t', u'⟩ := n.out_spec g hf i j n.N (Nat.le_refl _)
  have e0 : n.look i j f 0 = n.out i j f 0 := rfl
  unfold Net.route
  refine g.law.le_anti r.1 r.2 r'.1 r'.2 ?_ ?_
  · rcases s' with s' | ⟨k, hk, s1, s2⟩
    · rw [s', ← e0]; exact t
    · obtain ⟨l, hl, e1, e2, e3⟩ := n.link_edge s1
      have := u l hl e1
      rw [e2, e3] at this
      rw [s2]
      simpa using this
  · rcases s with s | ⟨l, hl, s1, s2⟩
    · rw [s, e0]; exact t'
    · have gl := g.link l hl
      have ek : n.edge i ((n.T l).toNat : Nat) = n.E l := by
        rw [← s1, show (((n.T l).toNat : Nat) : Int) = n.T l by omega]
        exact n.edge_link h hl
      have := u' (n.T l).toNat (by unfold Net.N; omega) (by rw [ek]; exact gl.2.2.2.2.1)
      rw [ek] at this
      rw [s2]
      exact this
end

end Go.Proofs.Ytjhkadffaephmab

/-
  Nets in memory; state.Square; state.Own.
-/
namespace Go.Proofs.Ytjhkadffaephmab
set_option maxRecDepth 100000
open Go.RowKit

/-- A net in memory. -/
structure NetM where
  a : AlgM
  nodes : Int
  la : Option Addr
  ln : Nat
  lc : Nat
  lb : Nat
  lo : Nat
  F : Nat → Int
  T : Nat → Int
  E : Nat → Int

def NetM.cells (n : NetM) : Array Value := #[.int .i64 n.a.size, n.a.B.val, n.a.E.val, .int .i64 n.nodes, .slice n.la n.ln n.lc]
def NetM.val (n : NetM) : Value := .agg n.cells
def NetM.net (n : NetM) : Net := ⟨n.a.alg, n.nodes, n.ln, n.F, n.T, n.E⟩

structure NetM.In (n : NetM) (N : Nat) (w : World) : Prop where
  a : n.a.In N w
  la : 0 < n.ln → n.la = some ⟨n.lb, n.lo, none⟩
  lb : 0 < n.ln → n.lb < N
  f : ∀ i, i < n.ln → w.cell? ⟨n.lb, n.lo + i * 3, none⟩ = some (.int .i64 (n.F i))
  t : ∀ i, i < n.ln → w.cell? ⟨n.lb, n.lo + i * 3 + 1, none⟩ = some (.int .i64 (n.T i))
  e : ∀ i, i < n.ln → w.cell? ⟨n.lb, n.lo + i * 3 + 2, none⟩ = some (.int .i64 (n.E i))
  len : n.ln ≤ maxLen

theorem NetM.In.below {n : NetM} {N k : Nat} {w w' : World} (h : n.In N w) (hb : Below k w w') (hk : N ≤ k) : n.In N w' where
  a := h.a.below hb hk
  la := h.la
  lb := h.lb
  f := fun i hi => by rw [hb.cell (p := ⟨n.lb, n.lo + i * 3, none⟩) (Nat.lt_of_lt_of_le (h.lb (by omega)) hk)]; exact h.f i hi
  t := fun i hi => by rw [hb.cell (p := ⟨n.lb, n.lo + i * 3 + 1, none⟩) (Nat.lt_of_lt_of_le (h.lb (by omega)) hk)]; exact h.t i hi
  e := fun i hi => by rw [hb.cell (p := ⟨n.lb, n.lo + i * 3 + 2, none⟩) (Nat.lt_of_lt_of_le (h.lb (by omega)) hk)]; exact h.e i hi
  len := h.len
theorem NetM.In.mono {n : NetM} {N k : Nat} {w : World} (h : n.In N w) (hk : N ≤ k) : n.In k w where
  a := h.a.mono hk
  la := h.la
  lb := fun h0 => Nat.lt_of_lt_of_le (h.lb h0) hk
  f := h.f
  t := h.t
  e := h.e
  len := h.len
theorem NetM.In.grown {n : NetM} {w w' : World} (h : n.In w.heap.size w) (hb : Below w.heap.size w w') : n.In w'.heap.size w' :=
  (h.below hb (Nat.le_refl _)).mono hb.size
theorem Mat.In.grown {m : Mat} {w w' : World} (h : m.In w.heap.size w) (hb : Below w.heap.size w w') : m.In w'.heap.size w' :=
  (h.below hb (Nat.le_refl _)).mono hb.size

theorem calls_square1 (args : Array Value) (W : World) : (callFunc 175 args).run Try.prog W = .ok (.enter 175 args) W := by rfl

set_option maxHeartbeats 400000 in
theorem square1_any (a : Option Addr) (l q bx : Nat) (s : Int) (w : World) (h : w.cell? ⟨bx, 0, none⟩ = some (.int .i64 s)) :
    Calls Try.prog 175 #[.slice a l q, .pointer (some ⟨bx, 0, none⟩)] w fun e w' => e = .returned (.bool ((l : Int) != s)) ∧ w' = w := by
  go_enter Try.func175, Try.ntmps175
  go_wp2
  go_ret
  exact ⟨rfl, rfl⟩

theorem wide_any (t : Tab) (s : Int) : (!(List.range t.len).any fun r => (t.L r : Int) != s) = t.wide s := by
  unfold Tab.wide
  rw [List.all_eq_not_any_not]
  rfl

set_option maxHeartbeats 1000000 in
theorem square_any (m : Mat) (s : Int) (w : World) (h : m.In w.heap.size w) :
    Calls Try.prog 118 #[m.val, .int .i64 s] w fun e w' => e = .returned (.bool (((m.t.len : Int) == s) && m.t.wide s)) ∧ Below w.heap.size w w' := by
  have hBa : Below w.heap.size w (w.alloc (.cells #[.int .i64 s] 3)) := (Below.refl _ w).alloc (Nat.le_refl _) _
  have b0 := Blk.new w #[.int .i64 s] 3
  have HC := hide (containsFunc_rows 175 #[.pointer (some ⟨w.heap.size, 0, none⟩)] m (fun r => (m.t.L r : Int) != s) _ (h.grown hBa) calls_square1 (fun i W hi hB => by
    refine (square1_any (m.A i) (m.t.L i) (m.C i) w.heap.size s W ((b0.below hB b0.lt).cell 0)).mono ?_
    rintro e w' ⟨rfl, rfl⟩
    exact ⟨rfl, Below.refl _ _⟩))
  have HBa := hide hBa
  have HI := hide (wide_any m.t s)
  simp only [Mat.val] at HC ⊢
  clear h hBa b0
  by_cases hl : (m.t.len : Int) = s
  · have hl' : ((m.t.len : Int) != s) = false := by simp [hl]
    have Hl2 : Hid (((m.t.len : Int) == s) = true) := hide (by simp [hl])
    clear hl
    go_enter Try.func118, Try.ntmps118
    go_wp2_with fail
    go_at_call 120
    refine HC.out.mono ?_
    rintro e w1 ⟨rfl, hb1⟩
    have HB := hide (HBa.out.trans (hb1.mono HBa.out.size))
    generalize hv : ((List.range m.t.len).any fun r => (m.t.L r : Int) != s) = v at HI ⊢
    clear hv hb1 HC
    go_wp2
    go_ret
    exact ⟨by rw [Hl2.out, ← HI.out]; rfl, HB.out⟩
  · have hl' : ((m.t.len : Int) != s) = true := by simp [hl]
    have Hl2 : Hid (((m.t.len : Int) == s) = false) := hide (by simp [hl])
    clear hl HC HI
    go_enter Try.func118, Try.ntmps118
    go_wp2
    go_ret
    exact ⟨by rw [Hl2.out]; rfl, HBa.out⟩

set_option maxHeartbeats 400000 in
theorem own_any (n : NetM) (i j : Nat) (w : World) (h0 : 2 ≤ n.a.size) (h1 : n.a.size ≤ 24) :
    Calls Try.prog 84 #[n.val, .int .i64 i, .int .i64 j] w fun e w' => e = .returned (.int .i64 (n.net.begin i j)) ∧ Below w.heap.size w w' := by
  have Hd : Hid (n.net.begin i j = if i = j then 0 else n.a.size - 1) := hide rfl
  have hb0 : ∀ o, Below w.heap.size w (w.alloc o) := fun o => (Below.refl _ _).alloc (Nat.le_refl _) _
  simp only [NetM.val, NetM.cells, Mat.val]
  by_cases e : i = j
  · have Hd2 : Hid (n.net.begin i j = 0) := hide (by rw [Hd.out, if_pos e])
    subst e
    clear Hd
    go_enter Try.func84, Try.ntmps84
    go_wp2
    go_ret
    exact ⟨by rw [Hd2.out]; rfl, hb0 _⟩
  · have he : ((i : Int) == (j : Int)) = false := by simp; omega
    have Hd2 : Hid (n.net.begin i j = n.a.size - 1) := hide (by rw [Hd.out, if_neg e])
    clear e Hd
    go_enter Try.func84, Try.ntmps84
    go_wp2
    go_ret
    exact ⟨by rw [Hd2.out]; rfl, hb0 _⟩

end Go.Proofs.Ytjhkadffaephmab

/-
  Schedules: plain mathematics. What nodes that look one at a time come to; cycles; strict algebras settle, whoever looks when.
-/
namespace Go.Proofs.Ytjhkadffaephmab

/-- A schedule by its numbers. -/
structure Sched where
  tn : Nat
  al : Nat → Nat
  act : Nat → Nat → Bool
  ages : Nat → Tab

/-- Are all ages right? -/
def Tab.agesOk (t : Tab) : Bool := (List.range t.len).all fun r => (List.range (t.L r)).all fun c => decide (1 ≤ t.Z r c) && decide (t.Z r c ≤ 20)
theorem Tab.agesOk_iff {t : Tab} : t.agesOk = true ↔ ∀ r, r < t.len → ∀ c, c < t.L r → 1 ≤ t.Z r c ∧ t.Z r c ≤ 20 := by
  simp [Tab.agesOk]
theorem Tab.agesOk_false {t : Tab} {r c : Nat} (h : r < t.len) (hc : c < t.L r) (hn : t.Z r c < 1 ∨ 20 < t.Z r c) : t.agesOk = false := by
  rw [Bool.eq_false_iff]; intro hw; have := Tab.agesOk_iff.1 hw r h c hc; omega

def Net.turnErr (n : Net) (s : Sched) (k : Nat) : Int :=
  if (s.al k : Int) ≠ n.nodes ∨ ((s.ages k).len : Int) ≠ n.nodes ∨ (s.ages k).wide n.nodes = false then 1 else if (s.ages k).agesOk = false then 3 else 0
def Net.turns (n : Net) (s : Sched) : Int := if n.check ≠ 0 then n.check else if 200 < s.tn then 2 else firstErr (n.turnErr s) s.tn

/-- A schedule that passes Check. -/
structure Net.Plays (n : Net) (s : Sched) : Prop where
  net : n.check = 0
  many : s.tn ≤ 200
  al : ∀ k, k < s.tn → s.al k = n.N
  rows : ∀ k, k < s.tn → (s.ages k).len = n.N
  wide : ∀ k, k < s.tn → ∀ i, i < n.N → (s.ages k).L i = n.N
  age : ∀ k, k < s.tn → ∀ i, i < n.N → ∀ j, j < n.N → 1 ≤ (s.ages k).Z i j ∧ (s.ages k).Z i j ≤ 20

theorem Net.plays_of {n : Net} {s : Sched} (h : n.turns s = 0) : n.Plays s := by
  unfold Net.turns at h
  by_cases h1 : n.check = 0
  · rw [if_neg (by simp [h1])] at h
    by_cases h2 : 200 < s.tn
    · rw [if_pos h2] at h; cases h
    · rw [if_neg h2] at h
      have g := Net.good_of_check h1
      have lo := g.lo
      have key : ∀ k, k < s.tn → ((s.al k : Int) = n.nodes ∧ ((s.ages k).len : Int) = n.nodes ∧ (s.ages k).wide n.nodes = true) ∧ (s.ages k).agesOk = true := fun k hk => by
        have := firstErr_zero.1 h k hk
        unfold Net.turnErr at this
        split at this
        · cases this
        · next hf =>
          split at this
          · cases this
          · next ha =>
            refine ⟨⟨?_, ?_, ?_⟩, by simpa using ha⟩
            · exact Classical.byContradiction fun e => hf (Or.inl e)
            · exact Classical.byContradiction fun e => hf (Or.inr (Or.inl e))
            · cases hw : (s.ages k).wide n.nodes with
              | true => rfl
              | false => exact absurd (Or.inr (Or.inr hw)) hf
      have hr : ∀ k, k < s.tn → (s.ages k).len = n.N := fun k hk => by have := (key k hk).1.2.1; unfold Net.N; omega
      have hw : ∀ k, k < s.tn → ∀ i, i < n.N → (s.ages k).L i = n.N := fun k hk i hi => by
        have := ((s.ages k).wide_iff n.nodes).1 (key k hk).1.2.2 i (by rw [hr k hk]; exact hi)
        unfold Net.N; omega
      refine ⟨h1, by omega, fun k hk => ?_, hr, hw, fun k hk i hi j hj => ?_⟩
      · have := (key k hk).1.1; unfold Net.N; omega
      · exact Tab.agesOk_iff.1 (key k hk).2 i (by rw [hr k hk]; exact hi) j (by rw [hw k hk i hi]; exact hj)
  · rw [if_pos h1] at h; exact absurd h h1

/-- Which state turn k (from 0 on) uses of a node. -/
def Sched.used (s : Sched) (k i q : Nat) : Nat := ((k : Int) + 1 - (s.ages k).Z i q).toNat

/-- What a turn makes of all states that were ahead of it. -/
def Net.step (n : Net) (s : Sched) (k : Nat) (H : Nat → Nat → Nat → Int) (i j : Nat) : Int :=
  if s.act k i = true then n.route i j (fun q => H (s.used k i q) q j) else H k i j
/-- All states, behind k turns. -/
def Net.hist (n : Net) (s : Sched) (x : Nat → Nat → Int) : Nat → Nat → Nat → Nat → Int
  | 0 => fun _ => x
  | k + 1 => fun m => if m = k + 1 then n.step s k (n.hist s x k) else n.hist s x k m
def Net.st (n : Net) (s : Sched) (x : Nat → Nat → Int) (k : Nat) : Nat → Nat → Int := n.hist s x k k

theorem Net.hist_le {n : Net} {s : Sched} {x : Nat → Nat → Int} : ∀ {k m : Nat}, m ≤ k → n.hist s x k m = n.st s x m := by
  intro k
  induction k with
  | zero => intro m hm; have : m = 0 := by omega
            subst this; rfl
  | succ k ih =>
    intro m hm
    by_cases e : m = k + 1
    · subst e; rfl
    · show (if m = k + 1 then n.step s k (n.hist s x k) else n.hist s x k m) = _
      rw [if_neg e]; exact ih (by omega)

theorem Net.st_zero {n : Net} {s : Sched} {x : Nat → Nat → Int} : n.st s x 0 = x := rfl
theorem Net.st_succ {n : Net} {s : Sched} {x : Nat → Nat → Int} (k : Nat) : n.st s x (k + 1) = n.step s k (n.hist s x k) := by
  show (if k + 1 = k + 1 then n.step s k (n.hist s x k) else n.hist s x k (k + 1)) = _
  rw [if_pos rfl]

/-- Does turn k use anything older than a state? -/
def Net.uses (n : Net) (s : Sched) (k since : Nat) : Bool :=
  (List.range n.N).any fun i => (List.range n.N).any fun q => s.act k i && (decide (0 ≤ n.edge i q) && decide (s.used k i q < since))
theorem Net.uses_iff {n : Net} {s : Sched} {k since : Nat} : n.uses s k since = true ↔ ∃ i, i < n.N ∧ ∃ q, q < n.N ∧ s.act k i = true ∧ 0 ≤ n.edge i q ∧ s.used k i q < since := by
  simp [Net.uses]
def Sched.met (s : Sched) (i f e : Nat) : Bool := (List.range e).any fun k => decide (f ≤ k) && s.act k i
theorem Sched.met_iff {s : Sched} {i f e : Nat} : s.met i f e = true ↔ ∃ k, f ≤ k ∧ k < e ∧ s.act k i = true := by
  simp only [Sched.met, List.any_eq_true, List.mem_range, Bool.and_eq_true, decide_eq_true_eq]
  exact ⟨fun ⟨k, h1, h2, h3⟩ => ⟨k, h2, h1, h3⟩, fun ⟨k, h2, h1, h3⟩ => ⟨k, h1, h2, h3⟩⟩
def Net.allMet (n : Net) (s : Sched) (f e : Nat) : Bool := (List.range n.N).all fun i => s.met i f e
theorem Net.allMet_iff {n : Net} {s : Sched} {f e : Nat} : n.allMet s f e = true ↔ ∀ i, i < n.N → s.met i f e = true := by
  simp [Net.allMet]
/-- Behind how many turns each node was active. -/
def Net.allEnd (n : Net) (s : Sched) (f : Nat) : Option Nat := (List.range (s.tn + 1)).find? fun e => decide (f < e) && n.allMet s f e
/-- Behind how many of the first m turns no more is older. -/
def Net.past (n : Net) (s : Sched) (since : Nat) : Nat → Nat
  | 0 => since
  | k + 1 => if since ≤ k ∧ n.uses s k since = true then k + 1 else n.past s since k
def Net.cycle (n : Net) (s : Sched) (f : Nat) : Option Nat := (n.allEnd s f).map fun e => n.past s e s.tn
def Net.count (n : Net) (s : Sched) : Nat → Nat → Nat
  | 0, _ => 0
  | m + 1, f => match n.cycle s f with
    | none => 0
    | some e => n.count s m e + 1
def Net.cycles (n : Net) (s : Sched) (f : Nat) : Nat := n.count s (s.tn + 1 - f) f

theorem Net.past_spec {n : Net} {s : Sched} {since : Nat} : ∀ m, since ≤ n.past s since m ∧ (n.past s since m ≤ since ∨ n.past s since m ≤ m) ∧ ∀ k, n.past s since m ≤ k → k < m → n.uses s k since = false := by
  intro m
  induction m with
  | zero => exact ⟨Nat.le_refl _, Or.inl (Nat.le_refl _), fun k _ hk => absurd hk (Nat.not_lt_zero _)⟩
  | succ m ih =>
    obtain ⟨i1, i2, i3⟩ := ih
    unfold Net.past
    by_cases h : since ≤ m ∧ n.uses s m since = true
    · rw [if_pos h]
      exact ⟨by omega, Or.inr (Nat.le_refl _), fun k h1 h2 => by omega⟩
    · rw [if_neg h]
      refine ⟨i1, by rcases i2 with e | e <;> omega, fun k h1 h2 => ?_⟩
      by_cases e : k = m
      · subst e
        cases hu : n.uses s k since with
        | false => rfl
        | true => exact absurd ⟨by omega, hu⟩ h
      · exact i3 k h1 (by omega)

theorem Net.allEnd_some {n : Net} {s : Sched} {f e : Nat} (h : n.allEnd s f = some e) : f < e ∧ e ≤ s.tn ∧ n.allMet s f e = true ∧ ∀ d, f < d → d < e → n.allMet s f d = false := by
  unfold Net.allEnd at h
  rw [List.find?_range_eq_some] at h
  obtain ⟨h1, h2, h3⟩ := h
  simp only [Bool.and_eq_true, decide_eq_true_eq, List.mem_range] at h1 h2
  refine ⟨h1.1, by omega, h1.2, fun d d1 d2 => ?_⟩
  have := h3 d d2
  simp only [Bool.not_eq_true', Bool.and_eq_false_iff, decide_eq_false_iff_not] at this
  rcases this with e | e
  · exact absurd d1 e
  · exact e
theorem Net.allEnd_of {n : Net} {s : Sched} {f e : Nat} (h1 : f < e) (h2 : e ≤ s.tn) (h3 : n.allMet s f e = true) (h4 : ∀ d, f < d → d < e → n.allMet s f d = false) : n.allEnd s f = some e := by
  unfold Net.allEnd
  rw [List.find?_range_eq_some]
  refine ⟨by simp [h1, h3], by simp; omega, fun d hd => ?_⟩
  by_cases hf : f < d
  · simp [h4 d hf hd]
  · simp [hf]
theorem Net.allEnd_none {n : Net} {s : Sched} {f : Nat} (h : ∀ d, f < d → d ≤ s.tn → n.allMet s f d = false) : n.allEnd s f = none := by
  cases he : n.allEnd s f with
  | none => rfl
  | some e =>
    obtain ⟨h1, h2, h3, _⟩ := n.allEnd_some he
    rw [h e h1 h2] at h3
    cases h3

theorem Net.cycle_lt {n : Net} {s : Sched} {f d : Nat} (h : n.cycle s f = some d) : f < d ∧ d ≤ s.tn := by
  unfold Net.cycle at h
  cases he : n.allEnd s f with
  | none => rw [he] at h; cases h
  | some e =>
    rw [he] at h
    obtain ⟨h1, h2, _, _⟩ := n.allEnd_some he
    obtain ⟨p1, p2, _⟩ := n.past_spec (s := s) (since := e) s.tn
    simp at h
    subst h
    exact ⟨by omega, by rcases p2 with q | q <;> omega⟩

theorem Net.cycles_none {n : Net} {s : Sched} {f : Nat} (h : n.cycle s f = none) : n.cycles s f = 0 := by
  unfold Net.cycles
  cases s.tn + 1 - f with
  | zero => rfl
  | succ m => rw [Net.count, h]

theorem Net.count_more {n : Net} {s : Sched} : ∀ (m k f : Nat), s.tn + 1 - f ≤ m → s.tn + 1 - f ≤ k → n.count s m f = n.count s k f := by
  intro m
  induction m with
  | zero =>
    intro k f h1 h2
    cases k with
    | zero => rfl
    | succ k =>
      rw [Net.count, Net.count]
      cases hc : n.cycle s f with
      | none => rfl
      | some e => have := n.cycle_lt hc; omega
  | succ m ih =>
    intro k f h1 h2
    cases k with
    | zero =>
      rw [Net.count, Net.count]
      cases hc : n.cycle s f with
      | none => rfl
      | some e => have := n.cycle_lt hc; omega
    | succ k =>
      rw [Net.count, Net.count]
      cases hc : n.cycle s f with
      | none => rfl
      | some e =>
        have := n.cycle_lt hc
        show n.count s m e + 1 = n.count s k e + 1
        rw [ih k e (by omega) (by omega)]
theorem Net.cycles_some {n : Net} {s : Sched} {f e : Nat} (h : n.cycle s f = some e) : n.cycles s f = n.cycles s e + 1 := by
  have hl := n.cycle_lt h
  unfold Net.cycles
  rw [show s.tn + 1 - f = (s.tn - f) + 1 by omega, Net.count, h]
  show n.count s (s.tn - f) e + 1 = _
  rw [n.count_more (s.tn - f) (s.tn + 1 - e) e (by omega) (by omega)]

section
variable {n : Net} {s : Sched}

theorem Net.out_edge {f h : Nat → Int} {i j : Nat} (e : ∀ k : Nat, k < n.N → 0 ≤ n.edge i k → f k = h k) : ∀ m, m ≤ n.N → n.out i j f m = n.out i j h m := by
  intro m
  induction m with
  | zero => intro _; rfl
  | succ m ih =>
    intro hm
    simp only [Net.out]
    rw [ih (by omega)]
    by_cases he : 0 ≤ n.edge i m
    · rw [if_pos he, if_pos he, e m (by omega) he]
    · rw [if_neg he, if_neg he]
theorem Net.route_edge {f h : Nat → Int} {i j : Nat} (e : ∀ k : Nat, k < n.N → 0 ≤ n.edge i k → f k = h k) : n.route i j f = n.route i j h := n.out_edge e n.N (Nat.le_refl _)

theorem Net.Plays.used_le (h : n.Plays s) {k i q : Nat} (hk : k < s.tn) (hi : i < n.N) (ht : q < n.N) : s.used k i q ≤ k := by
  have := h.age k hk i hi q ht
  unfold Sched.used
  omega

theorem Net.Plays.st_state (h : n.Plays s) {x : Nat → Nat → Int} (hx : n.State x) : ∀ k, k ≤ s.tn → n.State (n.st s x k) := by
  have g := Net.good_of_check h.net
  intro k
  induction k using Nat.strongRecOn with
  | _ k ih =>
    intro hk
    cases k with
    | zero => exact hx
    | succ k =>
      intro i j hi hj
      rw [Net.st_succ]
      unfold Net.step
      split
      · refine n.route_in g (fun q ht => ?_) i j
        have hu := h.used_le (by omega : k < s.tn) hi ht
        show 0 ≤ n.hist s x k (s.used k i q) q j ∧ _
        rw [Net.hist_le hu]
        exact ih _ (by omega) (by omega) q j ht hj
      · rw [Net.hist_le (Nat.le_refl _)]
        exact ih k (by omega) (by omega) i j hi hj

/-- Behind c cycles: from some state on all lie near, and no turn uses what is older. -/
def Net.Box (n : Net) (s : Sched) (x p : Nat → Nat → Int) (c f : Nat) : Prop :=
  ∃ e, e ≤ f ∧ (∀ m, e ≤ m → m ≤ s.tn → ∀ j, j < n.N → n.Near c (fun i => n.st s x m i j) (fun i => p i j)) ∧ ∀ k, f ≤ k → k < s.tn → n.uses s k e = false

theorem Net.Box.step (h : n.Plays s) (hs : n.a.Strict) {x p : Nat → Nat → Int} (hx : n.State x) (hp : n.State p) (hfix : ∀ i j, i < n.N → j < n.N → n.round p i j = p i j) {c f d : Nat} (hb : n.Box s x p c f) (hc : n.cycle s f = some d) : n.Box s x p (c + 1) d := by
  have g := Net.good_of_check h.net
  obtain ⟨e, he, hnear, hold⟩ := hb
  unfold Net.cycle at hc
  cases hae : n.allEnd s f with
  | none => rw [hae] at hc; cases hc
  | some e' =>
    rw [hae] at hc
    simp at hc
    subst hc
    obtain ⟨a1, a2, a3, _⟩ := n.allEnd_some hae
    obtain ⟨p1, _, p3⟩ := n.past_spec (s := s) (since := e') s.tn
    -- a turn behind f leaves what is nearer
    have key : ∀ k, f ≤ k → k < s.tn → ∀ i, i < n.N → s.act k i = true → ∀ j, j < n.N →
        n.st s x (k + 1) i j = p i j ∨ (c + 1 ≤ n.a.rank (n.st s x (k + 1) i j) ∧ c + 1 ≤ n.a.rank (p i j)) := by
      intro k hk hkt i hi hact j hj
      have hu : ∀ q : Nat, q < n.N → 0 ≤ n.edge i q → e ≤ s.used k i q := fun q ht hed => by
        apply Classical.byContradiction
        intro hn
        have : n.uses s k e = true := Net.uses_iff.2 ⟨i, hi, q, ht, hact, hed, by omega⟩
        rw [hold k hk hkt] at this
        cases this
      have e1 : n.st s x (k + 1) i j = n.route i j (fun q => if 0 ≤ n.edge i q then n.st s x (s.used k i q) q j else p q j) := by
        rw [Net.st_succ]
        unfold Net.step
        rw [if_pos hact]
        refine n.route_edge (fun q ht hed => ?_)
        rw [if_pos hed, Net.hist_le (h.used_le hkt hi ht)]
      have e2 : p i j = n.route i j (fun q => p q j) := (hfix i j hi hj).symm
      rw [e1]
      have := n.near_succ g hs (f := fun q => if 0 ≤ n.edge i q then n.st s x (s.used k i q) q j else p q j) (h := fun q => p q j) (m := c) (fun q ht => by
          show 0 ≤ (if 0 ≤ n.edge i q then n.st s x (s.used k i q) q j else p q j) ∧ (if 0 ≤ n.edge i q then n.st s x (s.used k i q) q j else p q j) < n.a.size
          split
          · have := h.used_le hkt hi ht
            exact h.st_state hx _ (by omega) q j ht hj
          · exact hp q j ht hj) (fun q ht => hp q j ht hj) (fun q ht => by
          show (if 0 ≤ n.edge i q then n.st s x (s.used k i q) q j else p q j) = p q j ∨ (c ≤ n.a.rank (if 0 ≤ n.edge i q then n.st s x (s.used k i q) q j else p q j) ∧ c ≤ n.a.rank (p q j))
          split
          · next hed =>
            have hle := h.used_le hkt hi ht
            exact hnear (s.used k i q) (hu q ht hed) (by omega) j hj q ht
          · exact Or.inl rfl) i j
      rw [← e2] at this
      exact this
    have keep : ∀ m, m ≤ s.tn → ∀ i, i < n.N → s.met i f m = true → ∀ j, j < n.N →
        n.st s x m i j = p i j ∨ (c + 1 ≤ n.a.rank (n.st s x m i j) ∧ c + 1 ≤ n.a.rank (p i j)) := by
      intro m
      induction m with
      | zero => intro _ i _ hm; obtain ⟨k, _, h2, _⟩ := Sched.met_iff.1 hm; omega
      | succ m ih =>
        intro hm i hi hmet j hj
        obtain ⟨k, k1, k2, k3⟩ := Sched.met_iff.1 hmet
        cases hact : s.act m i with
        | true => exact key m (by omega) (by omega) i hi hact j hj
        | false =>
          have hkm : k ≠ m := fun e => by subst e; rw [k3] at hact; cases hact
          have e1 : n.st s x (m + 1) i j = n.st s x m i j := by
            rw [Net.st_succ]
            unfold Net.step
            rw [if_neg (by simp [hact])]
            rfl
          rw [e1]
          exact ih (by omega) i hi (Sched.met_iff.2 ⟨k, k1, by omega, k3⟩) j hj
    refine ⟨e', p1, fun m h1 h2 j hj i hi => ?_, fun k h1 h2 => p3 k h1 h2⟩
    obtain ⟨k, k1, k2, k3⟩ := Sched.met_iff.1 (Net.allMet_iff.1 a3 i hi)
    exact keep m h2 i hi (Sched.met_iff.2 ⟨k, k1, by omega, k3⟩) j hj

theorem Net.Box.many (h : n.Plays s) (hs : n.a.Strict) {x p : Nat → Nat → Int} (hx : n.State x) (hp : n.State p) (hfix : ∀ i j, i < n.N → j < n.N → n.round p i j = p i j) :
    ∀ (m c f : Nat), n.Box s x p c f → f ≤ s.tn → m ≤ n.cycles s f → ∃ d, d ≤ s.tn ∧ n.Box s x p (c + m) d := by
  intro m
  induction m with
  | zero => intro c f hb hf _; exact ⟨f, hf, hb⟩
  | succ m ih =>
    intro c f hb hf hm
    cases hc : n.cycle s f with
    | none => rw [n.cycles_none hc] at hm; omega
    | some d =>
      rw [n.cycles_some hc] at hm
      obtain ⟨d', h1, h2⟩ := ih (c + 1) d (hb.step h hs hx hp hfix hc) (n.cycle_lt hc).2 (by omega)
      exact ⟨d', h1, by rw [show c + (m + 1) = c + 1 + m by omega]; exact h2⟩

/-- If the algebra is strict, and there are at least Size cycles, the last state is the one that settled. -/
theorem Net.settles_async (h : n.Plays s) (hs : n.a.Strict) {x p : Nat → Nat → Int} (hx : n.State x) (hp : n.State p) (hfix : ∀ i j, i < n.N → j < n.N → n.round p i j = p i j) (hm : n.a.size ≤ n.cycles s 0) :
    ∀ i j, i < n.N → j < n.N → n.st s x s.tn i j = p i j := by
  have g := Net.good_of_check h.net
  intro i j hi hj
  obtain ⟨d, hd, e, he, hnear, _⟩ := Net.Box.many h hs hx hp hfix (n.cycles s 0) 0 0 ⟨0, Nat.le_refl _, fun m _ _ j _ i _ => Or.inr ⟨Nat.zero_le _, Nat.zero_le _⟩, fun k _ _ => by
    cases hu : n.uses s k 0 with
    | false => rfl
    | true => obtain ⟨_, _, _, _, _, _, hl⟩ := Net.uses_iff.1 hu; omega⟩ (Nat.zero_le _) (Nat.le_refl _)
  exact n.near_end g (fun k hk => h.st_state hx s.tn (Nat.le_refl _) k j hk hj) (fun k hk => hp k j hk hj) (hnear s.tn (by omega) (Nat.le_refl _) j hj) (by omega) i hi
end

end Go.Proofs.Ytjhkadffaephmab

/-
  A net as it came, out of its reading.
-/
namespace Go.Proofs.Ytjhkadffaephmab
set_option maxRecDepth 100000
open Go.RowKit Go.ChangeShapes Go.WideShapes Go.Joins Go.Deep

theorem Try.cells41 : Try.prog.cellsOf 41 = 5 := by kernel_rfl
theorem Try.cells79 : Try.prog.cellsOf 79 = 3 := by kernel_rfl
theorem Try.cells39 : Try.prog.cellsOf 39 = 1 := by kernel_rfl

section
variable {H : Type} {enc : TypeId × Value → H} {W : World}

theorem open_alg_cells {n : Nat} {cs : List Value} {y : DataW H × List MemPlace} (h : DataW.trod enc Try.prog W 0 (fun _ => true) true n 38 cs = some y) :
    ∃ a : AlgM, cs = [.int .i64 a.size, a.B.val, a.E.val] ∧ a.In W.heap.size W := by
  obtain ⟨xs, n1, rfl, rfl, hlc, hlen, hfs⟩ := DataW.trod_struct Try.underlying38 h
  rw [Try.cells38] at hlc
  match cs, hlc, xs, hlen with
  | [c0, c1, c2], _, [y0, y1, y2], _ =>
    have k0 := hfs 0 _ rfl
    have k1 := hfs 1 _ rfl
    have k2 := hfs 2 _ rfl
    simp [Try.cells3, Try.cells36] at k0 k1 k2
    obtain ⟨s, e0, _, _⟩ := DataW.trod_int Try.underlying3 k0
    simp at e0
    subst e0
    obtain ⟨B, rfl, hB⟩ := open_mat k1
    obtain ⟨E, rfl, hE⟩ := open_mat k2
    exact ⟨⟨s, B, E⟩, rfl, hB, hE⟩

theorem open_link_cells {n : Nat} {cs : List Value} {y : DataW H × List MemPlace} (h : DataW.trod enc Try.prog W 0 (fun _ => true) true n 79 cs = some y) :
    ∃ f t e : Int, cs = [.int .i64 f, .int .i64 t, .int .i64 e] := by
  obtain ⟨xs, n1, rfl, rfl, hlc, hlen, hfs⟩ := DataW.trod_struct Try.underlying79 h
  rw [Try.cells79] at hlc
  match cs, hlc, xs, hlen with
  | [c0, c1, c2], _, [y0, y1, y2], _ =>
    have k0 := hfs 0 _ rfl
    have k1 := hfs 1 _ rfl
    have k2 := hfs 2 _ rfl
    simp [Try.cells3] at k0 k1 k2
    obtain ⟨a0, e0, _, _⟩ := DataW.trod_int Try.underlying3 k0
    obtain ⟨a1, e1, _, _⟩ := DataW.trod_int Try.underlying3 k1
    obtain ⟨a2, e2, _, _⟩ := DataW.trod_int Try.underlying3 k2
    simp at e0 e1 e2
    subst e0 e1 e2
    exact ⟨a0, a1, a2, rfl⟩

theorem open_links {n : Nat} {v : Value} {y : DataW H × List MemPlace} (h : DataW.trod enc Try.prog W 0 (fun _ => true) true n 39 [v] = some y) :
    ∃ (la : Option Addr) (ln lc lb lo : Nat) (F T E : Nat → Int), v = .slice la ln lc ∧ (0 < ln → la = some ⟨lb, lo, none⟩) ∧ (0 < ln → lb < W.heap.size) ∧
      (∀ i, i < ln → W.cell? ⟨lb, lo + i * 3, none⟩ = some (.int .i64 (F i))) ∧ (∀ i, i < ln → W.cell? ⟨lb, lo + i * 3 + 1, none⟩ = some (.int .i64 (T i))) ∧ (∀ i, i < ln → W.cell? ⟨lb, lo + i * 3 + 2, none⟩ = some (.int .i64 (E i))) ∧ ln ≤ maxLen := by
  rcases DataW.trod_slice Try.underlying39 h with ⟨hcs, _⟩ | ⟨a, len, cap, elems, rest, n2, hn, hcs, hy, _, hl, hm, hel, hat, hsp, _⟩
  · simp at hcs
    exact ⟨none, 0, 0, 0, 0, fun _ => 0, fun _ => 0, fun _ => 0, hcs, fun h => absurd h (Nat.not_lt_zero _), fun h => absurd h (Nat.not_lt_zero _), fun _ h => absurd h (Nat.not_lt_zero _), fun _ h => absurd h (Nat.not_lt_zero _), fun _ h => absurd h (Nat.not_lt_zero _), Nat.zero_le _⟩
  · simp at hcs
    obtain ⟨gb, go, gs⟩ := a
    rcases Nat.eq_zero_or_pos len with hl0 | hlp
    · subst hl0
      exact ⟨_, 0, cap, 0, 0, fun _ => 0, fun _ => 0, fun _ => 0, hcs, fun h => absurd h (Nat.not_lt_zero _), fun h => absurd h (Nat.not_lt_zero _), fun _ h => absurd h (Nat.not_lt_zero _), fun _ h => absurd h (Nat.not_lt_zero _), fun _ h => absurd h (Nat.not_lt_zero _), Nat.zero_le _⟩
    · have each : ∀ i, i < len → ∃ cs', W.cells? 0 ((⟨gb, go, gs⟩ : Addr).add (i * 3)) 3 = some cs' ∧ ∃ f t e : Int, cs' = [.int .i64 f, .int .i64 t, .int .i64 e] := fun i hi => by
        have := hat i hi
        rw [Try.cells79, List.getElem?_eq_getElem (by omega)] at this
        obtain ⟨cs', h1, h2⟩ := Option.bind_eq_some_iff.1 this
        exact ⟨cs', h1, open_link_cells h2⟩
      have hgs : gs = none := by
        obtain ⟨cs', h1, f, t, e, h2⟩ := each 0 hlp
        have := (World.cells?_some h1).2.2 0 (by omega)
        rw [h2] at this
        simpa [Addr.add] using World.cell?_spot this
      subst hgs
      obtain ⟨P, hP⟩ := choose_lt (α := Int × Int × Int) (n := len) (p := fun i p => W.cell? ⟨gb, go + i * 3, none⟩ = some (.int .i64 p.1) ∧ W.cell? ⟨gb, go + i * 3 + 1, none⟩ = some (.int .i64 p.2.1) ∧ W.cell? ⟨gb, go + i * 3 + 2, none⟩ = some (.int .i64 p.2.2)) (fun i hi => by
        obtain ⟨cs', h1, f, t, e, h2⟩ := each i hi
        obtain ⟨_, _, hc⟩ := World.cells?_some h1
        rw [add_plain] at hc
        have g : ∀ j, j < 3 → W.cell? ⟨gb, go + i * 3 + j, none⟩ = [Value.int .i64 f, .int .i64 t, .int .i64 e][j]? := fun j hj => by rw [← add_plain, ← h2]; exact hc j hj
        exact ⟨(f, t, e), g 0 (by omega), g 1 (by omega), g 2 (by omega)⟩)
      exact ⟨_, len, cap, gb, go, fun i => (P i).1, fun i => (P i).2.1, fun i => (P i).2.2, hcs, fun _ => rfl, fun _ => World.block_lt_of_cell? _ _ (hP 0 hlp).1, fun i hi => (hP i hi).1, fun i hi => (hP i hi).2.1, fun i hi => (hP i hi).2.2, by omega⟩

theorem open_net {b0 : Nat} {v : Value} {d : DataW H} {p : List MemPlace} (hv : Value.okWide Try.prog W .any b0 41 v) (h : DataW.Trod enc Try.prog W 0 (fun _ => true) true 41 v d p) :
    ∃ n : NetM, v = n.val ∧ n.In W.heap.size W := by
  obtain ⟨cs, rfl, hsz⟩ := okWide_struct Try.underlying41 hv
  obtain ⟨fuel, hf⟩ := h
  obtain ⟨xs, n1, _, _, hlc, hlen, hfs⟩ := DataW.trod_struct Try.underlying41 hf
  obtain ⟨c0, c1, c2, c3, c4, rfl⟩ := array5 (hsz.trans Try.cells41)
  match xs, hlen with
  | [y0, y1, y2], _ =>
    have k0 := hfs 0 _ rfl
    have k1 := hfs 1 _ rfl
    have k2 := hfs 2 _ rfl
    simp [Value.cells, Try.cells3, Try.cells38, Try.cells39] at k0 k1 k2
    obtain ⟨a, ea, hA⟩ := open_alg_cells k0
    obtain ⟨s, e1, _, _⟩ := DataW.trod_int Try.underlying3 k1
    simp at e1 ea
    obtain ⟨rfl, rfl, rfl⟩ := ea
    subst e1
    obtain ⟨la, ln, lc, lb, lo, F, T, E, rfl, q1, q2, q3, q4, q5, q6⟩ := open_links k2
    exact ⟨⟨a, s, la, ln, lc, lb, lo, F, T, E⟩, rfl, hA, q1, q2, q3, q4, q5, q6⟩

theorem open_state {b0 : Nat} {v : Value} {d : DataW H} {p : List MemPlace} (hv : Value.okWide Try.prog W .any b0 36 v) (h : DataW.Trod enc Try.prog W 0 (fun _ => true) true 36 v d p) :
    ∃ m : Mat, v = m.val ∧ m.In W.heap.size W := by
  obtain ⟨a, l, c, rfl⟩ := okWide_slice Try.underlying36 hv
  obtain ⟨fuel, hf⟩ := h
  exact open_mat hf
end

end Go.Proofs.Ytjhkadffaephmab
