/-
  Nets: plain mathematics. What a round makes, and that strict algebras settle, always to the same.
-/
import Derived.Test.YtjhkadffaephmabPureD
import Derived.Test.YtjhkadffaephmabPlanC
namespace Go.Proofs.Ytjhkadffaephmab

/-- A net by its numbers. -/
structure Net where
  a : Alg
  nodes : Int
  ln : Nat
  F : Nat → Int
  T : Nat → Int
  E : Nat → Int

/-- Is there a link ahead of it with the same ends? -/
def Net.twice (n : Net) (i : Nat) : Bool := (List.range i).any fun k => n.F k == n.F i && n.T k == n.T i
def Net.linkErr (n : Net) (i : Nat) : Int :=
  if (n.F i < 0 ∨ n.nodes ≤ n.F i) ∨ (n.T i < 0 ∨ n.nodes ≤ n.T i) ∨ (n.E i < 0 ∨ (n.a.E.len : Int) ≤ n.E i) then 5
  else if n.F i = n.T i then 1 else if n.twice i = true then 6 else 0
def Net.check (n : Net) : Int :=
  if n.a.check ≠ 0 then n.a.check else if (n.a.tell [1, 2, 3, 4, 5, 6, 7]).law ≠ 0 then 4
  else if n.nodes < 1 ∨ 6 < n.nodes then 3 else firstErr n.linkErr n.ln
def Net.rows (n : Net) (t : Tab) : Int :=
  if (t.len : Int) ≠ n.nodes ∨ t.wide n.nodes = false then 1 else if t.routes n.a.size = false then 5 else 0
def Net.fit (n : Net) (t : Tab) : Int := if n.check = 0 then n.rows t else n.check

/-- The edge of the link between two nodes; -1: there is none. -/
def Net.edge (n : Net) (i k : Int) : Int := (((List.range n.ln).find? fun l => n.F l == i && n.T l == k).map n.E).getD (-1)

/-- The route of i to j, when so many nodes were looked at. -/
def Net.out (n : Net) (i j : Nat) (has : Nat → Int) : Nat → Int
  | 0 => if i = j then 0 else n.a.size - 1
  | k + 1 => if 0 ≤ n.edge i k then n.a.B.get (n.out i j has k) (n.a.E.get (n.edge i k) (has k)) else n.out i j has k
def Net.N (n : Net) : Nat := n.nodes.toNat
def Net.route (n : Net) (i j : Nat) (has : Nat → Int) : Int := n.out i j has n.N
def Net.round (n : Net) (x : Nat → Nat → Int) (i j : Nat) : Int := n.route i j (fun k => x k j)
def Net.begin (n : Net) (i j : Nat) : Int := if i = j then 0 else n.a.size - 1
/-- So many rounds. -/
def Net.iter (n : Net) : Nat → (Nat → Nat → Int) → Nat → Nat → Int
  | 0, x => x
  | k + 1, x => n.iter k (n.round x)
def Net.same (n : Net) (x y : Nat → Nat → Int) : Bool := (List.range n.N).all fun i => (List.range n.N).all fun j => x i j == y i j
def Net.settle (n : Net) : Nat → (Nat → Nat → Int) → (Nat → Nat → Int) × Nat
  | 0, x => (x, 0)
  | m + 1, x => if n.same x (n.round x) = true then (x, 0) else ((n.settle m (n.round x)).1, (n.settle m (n.round x)).2 + 1)

theorem Net.same_iff {n : Net} {x y : Nat → Nat → Int} : n.same x y = true ↔ ∀ i j, i < n.N → j < n.N → x i j = y i j := by
  simp only [Net.same, List.all_eq_true, List.mem_range, beq_iff_eq]
  exact ⟨fun h i j hi hj => h i hi j hj, fun h i hi j hj => h i j hi hj⟩

/-- An algebra that breaks none of its laws. -/
structure Alg.Lawful (a : Alg) : Prop where
  good : a.Good
  comm : ∀ x y, 0 ≤ x → x < a.size → 0 ≤ y → y < a.size → a.B.get x y = a.B.get y x
  assoc : ∀ x y z, 0 ≤ x → x < a.size → 0 ≤ y → y < a.size → 0 ≤ z → z < a.size → a.B.get x (a.B.get y z) = a.B.get (a.B.get x y) z
  sel : ∀ x y, 0 ≤ x → x < a.size → 0 ≤ y → y < a.size → a.B.get x y = x ∨ a.B.get x y = y
  zero : ∀ x, 0 ≤ x → x < a.size → a.B.get 0 x = 0
  last : ∀ x, 0 ≤ x → x < a.size → a.B.get (a.size - 1) x = x
  elast : ∀ e : Int, 0 ≤ e → e < a.E.len → a.E.get e (a.size - 1) = a.size - 1
  incr : ∀ e x : Int, 0 ≤ e → e < a.E.len → 0 ≤ x → x < a.size → a.B.get x (a.E.get e x) = x

theorem tell_law_none {a : Alg} (hc : a.check = 0) (h : (a.tell [1, 2, 3, 4, 5, 6, 7]).law = 0) : a.tell [1, 2, 3, 4, 5, 6, 7] = Brk.none := by
  apply Classical.byContradiction
  intro hn
  have := tell_broken hc hn
  omega

theorem Alg.Lawful.of {a : Alg} (hc : a.check = 0) (h : (a.tell [1, 2, 3, 4, 5, 6, 7]).law = 0) : a.Lawful := by
  have g := Alg.good_of_check hc
  have lo := g.lo
  have t := tell_law_none hc h
  have key : ∀ b : Brk, a.Fits b → b.law ≤ 7 → a.holds b = true := fun b f hl => tell_none t (holdsE_fit hc f) hl
  refine ⟨g, ?_, ?_, ?_, ?_, ?_, ?_, ?_⟩
  · intro x y h0 h1 h2 h3
    have := key ⟨1, x, y, 0, 0⟩ ⟨by simp, by simp, h0, by simp [spanA, routesOf]; omega, h2, by simp [spanB, routesOf]; omega, by simp, by simp [spanC, routesOf], by simp, by simp [spanE, edgeOf]⟩ (by simp)
    simpa [Alg.holds] using this
  · intro x y z h0 h1 h2 h3 h4 h5
    have := key ⟨2, x, y, z, 0⟩ ⟨by simp, by simp, h0, by simp [spanA, routesOf]; omega, h2, by simp [spanB, routesOf]; omega, h4, by simp [spanC, routesOf]; omega, by simp, by simp [spanE, edgeOf]⟩ (by simp)
    simpa [Alg.holds] using this
  · intro x y h0 h1 h2 h3
    have := key ⟨3, x, y, 0, 0⟩ ⟨by simp, by simp, h0, by simp [spanA, routesOf]; omega, h2, by simp [spanB, routesOf]; omega, by simp, by simp [spanC, routesOf], by simp, by simp [spanE, edgeOf]⟩ (by simp)
    simpa [Alg.holds] using this
  · intro x h0 h1
    have := key ⟨4, x, 0, 0, 0⟩ ⟨by simp, by simp, h0, by simp [spanA, routesOf]; omega, by simp, by simp [spanB, routesOf], by simp, by simp [spanC, routesOf], by simp, by simp [spanE, edgeOf]⟩ (by simp)
    simpa [Alg.holds] using this
  · intro x h0 h1
    have := key ⟨5, x, 0, 0, 0⟩ ⟨by simp, by simp, h0, by simp [spanA, routesOf]; omega, by simp, by simp [spanB, routesOf], by simp, by simp [spanC, routesOf], by simp, by simp [spanE, edgeOf]⟩ (by simp)
    simpa [Alg.holds] using this
  · intro e h0 h1
    have := key ⟨6, 0, 0, 0, e⟩ ⟨by simp, by simp, by simp, by simp [spanA, routesOf], by simp, by simp [spanB, routesOf], by simp, by simp [spanC, routesOf], h0, by simp [spanE, edgeOf]; omega⟩ (by simp)
    simpa [Alg.holds] using this
  · intro e x h0 h1 h2 h3
    have := key ⟨7, x, 0, 0, e⟩ ⟨by simp, by simp, h2, by simp [spanA, routesOf]; omega, by simp, by simp [spanB, routesOf], by simp, by simp [spanC, routesOf], h0, by simp [spanE, edgeOf]; omega⟩ (by simp)
    simpa [Alg.holds] using this

/-- No edge keeps a route, but the last. -/
def Alg.Strict (a : Alg) : Prop := ∀ e x : Int, 0 ≤ e → e < a.E.len → 0 ≤ x → x < a.size - 1 → a.E.get e x ≠ x

theorem Alg.Strict.of {a : Alg} (hc : a.check = 0) (h : (a.tell [8]).law = 0) : a.Strict := by
  have g := Alg.good_of_check hc
  have ht : a.tell [8] = a.firstOf [8] := by unfold Alg.tell; rw [if_pos hc]
  have hn : a.firstOf [8] = Brk.none := by
    apply Classical.byContradiction
    intro hne
    obtain ⟨l, hl, _, h2, _⟩ := firstOf_spec hne
    have hl' : l = 8 := by simpa using hl
    obtain ⟨_, e⟩ := g.fits_cases (by omega) (by omega) h2
    rw [ht] at h
    omega
  intro e x h0 h1 h2 h3
  have f : a.Fits ⟨8, x, 0, 0, e⟩ := ⟨by simp, by simp, h2, by simp [spanA, routesOf]; omega, by simp, by simp [spanB, routesOf], by simp, by simp [spanC, routesOf], h0, by simp [spanE, edgeOf]; omega⟩
  have hh := firstOf_all (by simp) hn 8 (by simp) _ (g.mem_cases f)
  simp [Alg.holds] at hh
  rcases hh with hh | hh
  · omega
  · exact hh.2

section
variable {a : Alg}

/-- How many are better. -/
def Alg.rank (a : Alg) (x : Int) : Nat := (List.range a.size.toNat).countP fun (c : Nat) => a.B.get (c : Int) x == (c : Int) && (c : Int) != x

theorem countP_lt {p q : Nat → Bool} : ∀ {l : List Nat}, (∀ c ∈ l, p c = true → q c = true) → (∃ c ∈ l, p c = false ∧ q c = true) → l.countP p < l.countP q
  | [], _, h => by simp at h
  | c :: l, h1, h2 => by
    have hl : l.countP p ≤ l.countP q := List.countP_mono_left (fun d hd => h1 d (by simp [hd]))
    rw [List.countP_cons, List.countP_cons]
    obtain ⟨d, hd, e1, e2⟩ := h2
    rcases List.mem_cons.1 hd with rfl | hd
    · rw [e1, e2]; simp; omega
    · have := countP_lt (fun d hd => h1 d (by simp [hd])) ⟨d, hd, e1, e2⟩
      have hc := h1 c (by simp)
      cases hp : p c with
      | true => rw [hc hp]; simp; omega
      | false => cases hq : q c <;> simp <;> omega

/-- Better, and another. -/
def Alg.lt (a : Alg) (x y : Int) : Prop := a.B.get x y = x ∧ x ≠ y

theorem Alg.Lawful.lt_total (h : a.Lawful) {x y : Int} (h0 : 0 ≤ x) (h1 : x < a.size) (h2 : 0 ≤ y) (h3 : y < a.size) (hn : x ≠ y) : a.lt x y ∨ a.lt y x := by
  rcases h.sel x y h0 h1 h2 h3 with e | e
  · exact Or.inl ⟨e, hn⟩
  · exact Or.inr ⟨by rw [h.comm y x h2 h3 h0 h1, e], Ne.symm hn⟩
theorem Alg.Lawful.le_trans (h : a.Lawful) {x y z : Int} (h0 : 0 ≤ x) (h1 : x < a.size) (h2 : 0 ≤ y) (h3 : y < a.size) (h4 : 0 ≤ z) (h5 : z < a.size) (e1 : a.B.get x y = x) (e2 : a.B.get y z = y) : a.B.get x z = x := by
  have := h.assoc x y z h0 h1 h2 h3 h4 h5
  rw [e2, e1] at this
  exact this.symm
theorem Alg.Lawful.le_anti (h : a.Lawful) {x y : Int} (h0 : 0 ≤ x) (h1 : x < a.size) (h2 : 0 ≤ y) (h3 : y < a.size) (e1 : a.B.get x y = x) (e2 : a.B.get y x = y) : x = y := by
  rw [← e1, h.comm x y h0 h1 h2 h3, e2]

theorem Alg.Lawful.rank_lt (h : a.Lawful) {x y : Int} (h0 : 0 ≤ x) (h1 : x < a.size) (h2 : 0 ≤ y) (h3 : y < a.size) (hl : a.lt x y) : a.rank x < a.rank y := by
  have lo := h.good.lo
  refine countP_lt (fun c hc hp => ?_) ⟨x.toNat, by simp; omega, ?_, ?_⟩
  · simp only [List.mem_range] at hc
    simp only [Bool.and_eq_true, beq_iff_eq, bne_iff_ne] at hp ⊢
    obtain ⟨p1, p2⟩ := hp
    have c1 : (c : Int) < a.size := by omega
    refine ⟨h.le_trans (by omega) c1 h0 h1 h2 h3 p1 hl.1, fun e => ?_⟩
    subst e
    exact hl.2 (h.le_anti h0 h1 (by omega) c1 hl.1 p1)
  · have e : ((x.toNat : Nat) : Int) = x := by omega
    simp [e]
  · have e : ((x.toNat : Nat) : Int) = x := by omega
    simp only [e, Bool.and_eq_true, beq_iff_eq, bne_iff_ne]
    exact hl
theorem Alg.Lawful.rank_le (h : a.Lawful) {x : Int} (h0 : 0 ≤ x) (h1 : x < a.size) : a.rank x < a.size.toNat := by
  have lo := h.good.lo
  have : a.rank x < (List.range a.size.toNat).countP (fun _ => true) := by
    refine countP_lt (fun _ _ _ => rfl) ⟨x.toNat, by simp; omega, ?_, rfl⟩
    have e : ((x.toNat : Nat) : Int) = x := by omega
    simp [e]
  simpa using this
end

/-- A net that passes Check. -/
structure Net.Good (n : Net) : Prop where
  law : n.a.Lawful
  lo : 1 ≤ n.nodes
  hi : n.nodes ≤ 6
  link : ∀ i, i < n.ln → 0 ≤ n.F i ∧ n.F i < n.nodes ∧ 0 ≤ n.T i ∧ n.T i < n.nodes ∧ 0 ≤ n.E i ∧ n.E i < n.a.E.len

theorem Net.good_of_check {n : Net} (h : n.check = 0) : n.Good := by
  unfold Net.check at h
  by_cases h1 : n.a.check = 0
  · rw [if_neg (by simp [h1])] at h
    by_cases h2 : (n.a.tell [1, 2, 3, 4, 5, 6, 7]).law = 0
    · rw [if_neg (by simp [h2])] at h
      by_cases h3 : n.nodes < 1 ∨ 6 < n.nodes
      · rw [if_pos h3] at h; cases h
      · rw [if_neg h3] at h
        refine ⟨Alg.Lawful.of h1 h2, by omega, by omega, fun i hi => ?_⟩
        have := firstErr_zero.1 h i hi
        unfold Net.linkErr at this
        split at this
        · cases this
        · omega
    · rw [if_pos h2] at h; cases h
  · rw [if_pos h1] at h; exact absurd h h1

theorem Net.edge_lt {n : Net} (g : n.Good) (i k : Int) : n.edge i k < n.a.E.len := by
  unfold Net.edge
  cases hf : (List.range n.ln).find? fun l => n.F l == i && n.T l == k with
  | none => simp; omega
  | some l =>
    have := List.mem_of_find?_eq_some hf
    simp only [List.mem_range] at this
    simpa using (g.link l this).2.2.2.2.2

/-- Each is a route. -/
def Net.Routes (n : Net) (f : Nat → Int) : Prop := ∀ k, k < n.N → 0 ≤ f k ∧ f k < n.a.size

section
variable {n : Net}

theorem Net.cand {n : Net} (g : n.Good) {f : Nat → Int} (hf : n.Routes f) {i : Int} {k : Nat} (hk : k < n.N) (he : 0 ≤ n.edge i k) : 0 ≤ n.a.E.get (n.edge i k) (f k) ∧ n.a.E.get (n.edge i k) (f k) < n.a.size :=
  g.law.good.edge he (n.edge_lt g i k) (hf k hk).1 (hf k hk).2

/-- What a route is, and that none is better. -/
theorem Net.out_spec (g : n.Good) {f : Nat → Int} (hf : n.Routes f) (i j : Nat) : ∀ m, m ≤ n.N →
    (0 ≤ n.out i j f m ∧ n.out i j f m < n.a.size) ∧
    (n.out i j f m = n.out i j f 0 ∨ ∃ k, k < m ∧ 0 ≤ n.edge i k ∧ n.out i j f m = n.a.E.get (n.edge i k) (f k)) ∧
    n.a.B.get (n.out i j f m) (n.out i j f 0) = n.out i j f m ∧
    ∀ k, k < m → 0 ≤ n.edge i k → n.a.B.get (n.out i j f m) (n.a.E.get (n.edge i k) (f k)) = n.out i j f m := by
  have lo := g.law.good.lo
  intro m
  induction m with
  | zero =>
    intro _
    have h0 : 0 ≤ n.out i j f 0 ∧ n.out i j f 0 < n.a.size := by
      unfold Net.out
      split <;> omega
    refine ⟨h0, Or.inl rfl, ?_, fun k hk => absurd hk (Nat.not_lt_zero _)⟩
    rcases g.law.sel _ _ h0.1 h0.2 h0.1 h0.2 with e | e <;> exact e
  | succ m ih =>
    intro hm
    obtain ⟨r, s, t, u⟩ := ih (by omega)
    have h0 : 0 ≤ n.out i j f 0 ∧ n.out i j f 0 < n.a.size := by
      simp only [Net.out]
      split <;> omega
    by_cases he : 0 ≤ n.edge i m
    · have e : n.out i j f (m + 1) = n.a.B.get (n.out i j f m) (n.a.E.get (n.edge i m) (f m)) := by
        rw [Net.out, if_pos he]
      obtain ⟨c0, c1⟩ := n.cand g hf (i := i) (k := m) (by omega) he
      generalize hc : n.a.E.get (n.edge i m) (f m) = c at *
      generalize n.out i j f m = o at *
      rw [e]
      rcases g.law.sel o c r.1 r.2 c0 c1 with e1 | e1
      · rw [e1]
        refine ⟨r, ?_, t, fun k hk hek => ?_⟩
        · rcases s with s | ⟨k, hk, s1, s2⟩
          · exact Or.inl s
          · exact Or.inr ⟨k, by omega, s1, s2⟩
        · by_cases ek : k = m
          · subst ek; rw [hc]; exact e1
          · exact u k (by omega) hek
      · rw [e1]
        have hco : n.a.B.get c o = c := by rw [g.law.comm c o c0 c1 r.1 r.2, e1]
        refine ⟨⟨c0, c1⟩, Or.inr ⟨m, by omega, he, hc.symm⟩, g.law.le_trans c0 c1 r.1 r.2 h0.1 h0.2 hco t, fun k hk hek => ?_⟩
        by_cases ek : k = m
        · subst ek
          rw [hc]
          rcases g.law.sel c c c0 c1 c0 c1 with e2 | e2 <;> exact e2
        · obtain ⟨d0, d1⟩ := n.cand g hf (i := i) (k := k) (by omega) hek
          exact g.law.le_trans c0 c1 r.1 r.2 d0 d1 hco (u k (by omega) hek)
    · have e : n.out i j f (m + 1) = n.out i j f m := by rw [Net.out, if_neg he]
      rw [e]
      refine ⟨r, ?_, t, fun k hk hek => ?_⟩
      · rcases s with s | ⟨k, hk, s1, s2⟩
        · exact Or.inl s
        · exact Or.inr ⟨k, by omega, s1, s2⟩
      · by_cases ek : k = m
        · subst ek; exact absurd hek he
        · exact u k (by omega) hek

theorem Net.route_in (g : n.Good) {f : Nat → Int} (hf : n.Routes f) (i j : Nat) : 0 ≤ n.route i j f ∧ n.route i j f < n.a.size := (n.out_spec g hf i j n.N (Nat.le_refl _)).1

/-- Where they part, both are of at least that rank. -/
def Net.Near (n : Net) (m : Nat) (f h : Nat → Int) : Prop := ∀ k, k < n.N → f k = h k ∨ (m ≤ n.a.rank (f k) ∧ m ≤ n.a.rank (h k))

theorem Net.near_lt (g : n.Good) (hs : n.a.Strict) {f h : Nat → Int} (hf : n.Routes f) (hh : n.Routes h) {m : Nat} (hn : n.Near m f h) (i j : Nat) (hl : n.a.lt (n.route i j f) (n.route i j h)) : m + 1 ≤ n.a.rank (n.route i j f) := by
  have lo := g.law.good.lo
  obtain ⟨r, s, t, u⟩ := n.out_spec g hf i j n.N (Nat.le_refl _)
  obtain ⟨r', s', t', u'⟩ := n.out_spec g hh i j n.N (Nat.le_refl _)
  unfold Net.route at *
  rcases s with s | ⟨k, hk, s1, s2⟩
  · exfalso
    have e0 : n.out i j h 0 = n.out i j f 0 := rfl
    rw [e0, ← s] at t'
    exact hl.2 (g.law.le_anti r.1 r.2 r'.1 r'.2 hl.1 t')
  · rcases hn k hk with e | ⟨e, _⟩
    · exfalso
      have := u' k hk s1
      rw [← e, ← s2] at this
      exact hl.2 (g.law.le_anti r.1 r.2 r'.1 r'.2 hl.1 this)
    · obtain ⟨f0, f1⟩ := hf k hk
      by_cases e9 : f k = n.a.size - 1
      · exfalso
        rw [e9, g.law.elast _ s1 (n.edge_lt g i k)] at s2
        have := g.law.last _ r'.1 r'.2
        rw [← s2] at this
        exact hl.2 (hl.1.symm.trans this)
      · have l1 : n.a.lt (f k) (n.out i j f n.N) := by
          rw [s2]
          exact ⟨g.law.incr _ _ s1 (n.edge_lt g i k) f0 f1, Ne.symm (hs _ _ s1 (n.edge_lt g i k) f0 (by omega))⟩
        have := g.law.rank_lt f0 f1 r.1 r.2 l1
        omega

theorem Net.near_succ (g : n.Good) (hs : n.a.Strict) {f h : Nat → Int} (hf : n.Routes f) (hh : n.Routes h) {m : Nat} (hn : n.Near m f h) (i j : Nat) :
    n.route i j f = n.route i j h ∨ (m + 1 ≤ n.a.rank (n.route i j f) ∧ m + 1 ≤ n.a.rank (n.route i j h)) := by
  by_cases e : n.route i j f = n.route i j h
  · exact Or.inl e
  · obtain ⟨r0, r1⟩ := n.route_in g hf i j
    obtain ⟨q0, q1⟩ := n.route_in g hh i j
    right
    rcases g.law.lt_total r0 r1 q0 q1 e with hl | hl
    · have a1 := n.near_lt g hs hf hh hn i j hl
      have a2 := g.law.rank_lt r0 r1 q0 q1 hl
      omega
    · have a1 := n.near_lt g hs hh hf (fun k hk => by
        rcases hn k hk with e | ⟨e1, e2⟩
        · exact Or.inl e.symm
        · exact Or.inr ⟨e2, e1⟩) i j hl
      have a2 := g.law.rank_lt q0 q1 r0 r1 hl
      omega

theorem Net.near_end (g : n.Good) {f h : Nat → Int} (hf : n.Routes f) (hh : n.Routes h) {m : Nat} (hn : n.Near m f h) (hm : n.a.size ≤ m + 1) : ∀ k, k < n.N → f k = h k := by
  intro k hk
  rcases hn k hk with e | ⟨e1, e2⟩
  · exact e
  · apply Classical.byContradiction
    intro hne
    obtain ⟨f0, f1⟩ := hf k hk
    obtain ⟨h0, h1⟩ := hh k hk
    have b1 := g.law.rank_le f0 f1
    have b2 := g.law.rank_le h0 h1
    rcases g.law.lt_total f0 f1 h0 h1 hne with hl | hl
    · have := g.law.rank_lt f0 f1 h0 h1 hl
      omega
    · have := g.law.rank_lt h0 h1 f0 f1 hl
      omega

/-- A state of routes. -/
def Net.State (n : Net) (x : Nat → Nat → Int) : Prop := ∀ i j, i < n.N → j < n.N → 0 ≤ x i j ∧ x i j < n.a.size

theorem Net.State.round (g : n.Good) {x : Nat → Nat → Int} (hx : n.State x) : n.State (n.round x) := fun i j _ hj => n.route_in g (fun k hk => hx k j hk hj) i j
theorem Net.State.iter (g : n.Good) {x : Nat → Nat → Int} (hx : n.State x) : ∀ m, n.State (n.iter m x) := by
  intro m
  induction m generalizing x with
  | zero => exact hx
  | succ m ih => exact ih (hx.round g)

theorem Net.out_congr {f h : Nat → Int} (e : ∀ k, k < n.N → f k = h k) (i j : Nat) : ∀ m, m ≤ n.N → n.out i j f m = n.out i j h m := by
  intro m
  induction m with
  | zero => intro _; rfl
  | succ m ih =>
    intro hm
    simp only [Net.out]
    rw [ih (by omega), e m (by omega)]
theorem Net.round_congr {x y : Nat → Nat → Int} (e : ∀ i j, i < n.N → j < n.N → x i j = y i j) : ∀ i j, i < n.N → j < n.N → n.round x i j = n.round y i j :=
  fun i j _ hj => n.out_congr (fun k hk => e k j hk hj) i j n.N (Nat.le_refl _)
theorem Net.iter_congr {x y : Nat → Nat → Int} (e : ∀ i j, i < n.N → j < n.N → x i j = y i j) : ∀ m i j, i < n.N → j < n.N → n.iter m x i j = n.iter m y i j := by
  intro m
  induction m generalizing x y with
  | zero => exact e
  | succ m ih => exact ih (n.round_congr e)
theorem Net.iter_round (x : Nat → Nat → Int) : ∀ m, n.iter m (n.round x) = n.round (n.iter m x) := by
  intro m
  induction m generalizing x with
  | zero => rfl
  | succ m ih => exact ih (n.round x)
theorem Net.iter_add (x : Nat → Nat → Int) (k : Nat) : ∀ m, n.iter (m + k) x = n.iter k (n.iter m x) := by
  intro m
  induction m generalizing x with
  | zero => rw [Nat.zero_add]; rfl
  | succ m ih => rw [show m + 1 + k = (m + k) + 1 by omega]; exact ih (n.round x)

theorem Net.iter_near (g : n.Good) (hs : n.a.Strict) {x y : Nat → Nat → Int} (hx : n.State x) (hy : n.State y) : ∀ m, ∀ j, j < n.N → n.Near m (fun k => n.iter m x k j) (fun k => n.iter m y k j) := by
  intro m
  induction m with
  | zero => exact fun j _ k _ => Or.inr ⟨Nat.zero_le _, Nat.zero_le _⟩
  | succ m ih =>
    intro j hj k hk
    show n.iter m (n.round x) k j = n.iter m (n.round y) k j ∨ _
    show _ ∨ (m + 1 ≤ n.a.rank (n.iter m (n.round x) k j) ∧ m + 1 ≤ n.a.rank (n.iter m (n.round y) k j))
    rw [n.iter_round, n.iter_round]
    exact n.near_succ g hs (fun k hk => hx.iter g m k j hk hj) (fun k hk => hy.iter g m k j hk hj) (ih j hj) k j

/-- Behind Size less 1 rounds all are the same. -/
theorem Net.iter_same (g : n.Good) (hs : n.a.Strict) {x y : Nat → Nat → Int} (hx : n.State x) (hy : n.State y) {m : Nat} (hm : n.a.size ≤ m + 1) : ∀ i j, i < n.N → j < n.N → n.iter m x i j = n.iter m y i j :=
  fun i j hi hj => n.near_end g (fun k hk => hx.iter g m k j hk hj) (fun k hk => hy.iter g m k j hk hj) (n.iter_near g hs hx hy m j hj) hm i hi

theorem Net.settle_iter (x : Nat → Nat → Int) : ∀ m, (n.settle m x).1 = n.iter (n.settle m x).2 x ∧ (n.settle m x).2 ≤ m ∧ ((n.settle m x).2 < m → n.same (n.settle m x).1 (n.round (n.settle m x).1) = true) ∧ ∀ k, k < (n.settle m x).2 → n.same (n.iter k x) (n.round (n.iter k x)) = false := by
  intro m
  induction m generalizing x with
  | zero => exact ⟨rfl, Nat.le_refl _, fun h => absurd h (Nat.not_lt_zero _), fun k hk => absurd hk (Nat.not_lt_zero _)⟩
  | succ m ih =>
    unfold Net.settle
    by_cases h : n.same x (n.round x) = true
    · rw [if_pos h]
      exact ⟨rfl, Nat.zero_le _, fun _ => h, fun k hk => absurd hk (Nat.not_lt_zero _)⟩
    · rw [if_neg h]
      obtain ⟨i1, i2, i3, i4⟩ := ih (n.round x)
      refine ⟨i1, Nat.succ_le_succ i2, fun h' => i3 (Nat.lt_of_succ_lt_succ h'), fun k hk => ?_⟩
      cases k with
      | zero => show n.same x (n.round x) = false; simpa using h
      | succ k => exact i4 k (Nat.lt_of_succ_lt_succ hk)

/-- If the algebra is strict, it settles, by at most Size less 1 rounds, and always to the same. -/
theorem Net.settle_strict (g : n.Good) (hs : n.a.Strict) {x : Nat → Nat → Int} (hx : n.State x) {m : Nat} (hm : n.a.size ≤ m) :
    ((n.settle m x).2 : Int) ≤ n.a.size - 1 ∧ n.State (n.settle m x).1 ∧ ∀ i j, i < n.N → j < n.N → n.round (n.settle m x).1 i j = (n.settle m x).1 i j := by
  have lo := g.law.good.lo
  obtain ⟨h1, h2, h3, h4⟩ := n.settle_iter x m
  have hk : ((n.settle m x).2 : Int) ≤ n.a.size - 1 := by
    apply Classical.byContradiction
    intro hn
    obtain ⟨t, ht⟩ : ∃ t : Nat, (t : Int) = n.a.size - 1 := ⟨(n.a.size - 1).toNat, by omega⟩
    have := h4 t (by omega)
    have hsm : n.same (n.iter t x) (n.round (n.iter t x)) = true := Net.same_iff.2 (fun i j hi hj => by
      rw [← n.iter_round]
      exact n.iter_same g hs hx (hx.round g) (by omega) i j hi hj)
    rw [hsm] at this
    cases this
  refine ⟨hk, by rw [h1]; exact hx.iter g _, fun i j hi hj => ?_⟩
  exact (Net.same_iff.1 (h3 (by omega)) i j hi hj).symm

theorem Net.fix_iter {p : Nat → Nat → Int} (h : ∀ i j, i < n.N → j < n.N → n.round p i j = p i j) : ∀ m i j, i < n.N → j < n.N → n.iter m p i j = p i j := by
  intro m
  induction m with
  | zero => exact fun i j _ _ => rfl
  | succ m ih =>
    intro i j hi hj
    show n.iter m (n.round p) i j = p i j
    rw [n.iter_congr h m i j hi hj]
    exact ih i j hi hj

theorem Net.fix_one (g : n.Good) (hs : n.a.Strict) {p q : Nat → Nat → Int} (hp : n.State p) (hq : n.State q) (h1 : ∀ i j, i < n.N → j < n.N → n.round p i j = p i j) (h2 : ∀ i j, i < n.N → j < n.N → n.round q i j = q i j) :
    ∀ i j, i < n.N → j < n.N → p i j = q i j := fun i j hi hj => by
  have := n.iter_same g hs hp hq (m := n.a.size.toNat) (by omega) i j hi hj
  rw [n.fix_iter h1 _ i j hi hj, n.fix_iter h2 _ i j hi hj] at this
  exact this
end

end Go.Proofs.Ytjhkadffaephmab
