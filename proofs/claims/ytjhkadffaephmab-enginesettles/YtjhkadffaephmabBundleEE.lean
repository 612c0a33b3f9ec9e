/-
  Our own texts, bundled: a claim holds few files.
-/
import Derived.Test.YtjhkadffaephmabBundleDG
/-
  Routes with paths: plain mathematics. Which of two is taken, what a round makes.
-/
namespace Go.Proofs.Ytjhkadffaephmab

/-- A route with its path. -/
structure Rt where
  w : Int
  p : List Int

def Rt.same (a b : Rt) : Bool := a.w == b.w && a.p == b.p
theorem Rt.same_iff {a b : Rt} : a.same b = true ↔ a = b := by
  obtain ⟨a1, a2⟩ := a
  obtain ⟨b1, b2⟩ := b
  simp [Rt.same]

def Net.inv (n : Net) : Rt := ⟨n.a.size - 1, []⟩
def Net.valid (n : Net) (r : Rt) : Bool := r.w != n.a.size - 1
/-- Has a list a number twice? -/
def twiceIn : List Int → Bool
  | [] => false
  | a :: l => l.contains a || twiceIn l
def Net.right (n : Net) (r : Rt) : Bool :=
  decide (0 ≤ r.w) && decide (r.w < n.a.size) && (if n.valid r = true then !r.p.isEmpty && (r.p.all fun c => decide (0 ≤ c) && decide (c < n.nodes)) && !twiceIn r.p else r.p.isEmpty)

def lexLt : List Int → List Int → Bool
  | a :: l, b :: m => if a = b then lexLt l m else decide (a < b)
  | _, _ => false
/-- The first one is taken, and not the second. -/
def Net.ahead (n : Net) (a b : Rt) : Bool :=
  if a.w = b.w then (if a.p.length = b.p.length then lexLt a.p b.p else decide (a.p.length < b.p.length)) else n.a.B.get a.w b.w == a.w
def Net.bestR (n : Net) (a b : Rt) : Rt := if n.ahead b a = true then b else a
def Net.ext (n : Net) (i e : Int) (r : Rt) : Rt := if n.valid r = true ∧ i ∉ r.p ∧ n.a.E.get e r.w ≠ n.a.size - 1 then ⟨n.a.E.get e r.w, i :: r.p⟩ else n.inv
def Net.ownR (n : Net) (i j : Nat) : Rt := if i = j then ⟨0, [(i : Int)]⟩ else n.inv

def Net.pout (n : Net) (i j : Nat) (has : Nat → Rt) : Nat → Rt
  | 0 => n.ownR i j
  | k + 1 => if 0 ≤ n.edge i k then n.bestR (n.pout i j has k) (n.ext i (n.edge i k) (has k)) else n.pout i j has k
def Net.plook (n : Net) (i j : Nat) (has : Nat → Rt) : Nat → Rt
  | 0 => n.ownR i j
  | l + 1 => if n.F l = i then n.bestR (n.plook i j has l) (n.ext i (n.E l) (has (n.T l).toNat)) else n.plook i j has l
def Net.proute (n : Net) (i j : Nat) (has : Nat → Rt) : Rt := n.pout i j has n.N
def Net.pround (n : Net) (x : Nat → Nat → Rt) (i j : Nat) : Rt := n.proute i j (fun k => x k j)
def Net.piter (n : Net) : Nat → (Nat → Nat → Rt) → Nat → Nat → Rt
  | 0, x => x
  | k + 1, x => n.piter k (n.pround x)
def Net.psame (n : Net) (x y : Nat → Nat → Rt) : Bool := (List.range n.N).all fun i => (List.range n.N).all fun j => (x i j).same (y i j)
def Net.psettle (n : Net) : Nat → (Nat → Nat → Rt) → (Nat → Nat → Rt) × Nat
  | 0, x => (x, 0)
  | m + 1, x => if n.psame x (n.pround x) = true then (x, 0) else ((n.psettle m (n.pround x)).1, (n.psettle m (n.pround x)).2 + 1)

theorem Net.psame_iff {n : Net} {x y : Nat → Nat → Rt} : n.psame x y = true ↔ ∀ i j, i < n.N → j < n.N → x i j = y i j := by
  simp only [Net.psame, List.all_eq_true, List.mem_range, Rt.same_iff]
  exact ⟨fun h i j hi hj => h i hi j hj, fun h i hi j hj => h i j hi hj⟩

theorem twiceIn_iff : ∀ {l : List Int}, twiceIn l = false ↔ l.Nodup
  | [] => by simp [twiceIn]
  | a :: l => by
    rw [twiceIn, List.nodup_cons, Bool.or_eq_false_iff, twiceIn_iff]
    simp

/-- A right route. -/
structure Net.Right (n : Net) (r : Rt) : Prop where
  lo : 0 ≤ r.w
  hi : r.w < n.a.size
  inv : r.w = n.a.size - 1 → r.p = []
  ne : r.w ≠ n.a.size - 1 → r.p ≠ []
  node : ∀ c ∈ r.p, 0 ≤ c ∧ c < n.nodes
  once : r.p.Nodup

theorem Net.right_iff {n : Net} {r : Rt} : n.right r = true ↔ n.Right r := by
  unfold Net.right Net.valid
  by_cases h : r.w = n.a.size - 1
  · rw [if_neg (by simp [h])]
    simp only [Bool.and_eq_true, decide_eq_true_eq, List.isEmpty_iff]
    exact ⟨fun ⟨⟨h1, h2⟩, h3⟩ => ⟨h1, h2, fun _ => h3, fun c => absurd h c, by rw [h3]; simp, by rw [h3]; simp⟩, fun g => ⟨⟨g.lo, g.hi⟩, g.inv h⟩⟩
  · rw [if_pos (by simp [h])]
    simp only [Bool.and_eq_true, decide_eq_true_eq, Bool.not_eq_true', List.all_eq_true]
    rw [twiceIn_iff]
    exact ⟨fun ⟨⟨h1, h2⟩, ⟨h3, h4⟩, h5⟩ => ⟨h1, h2, fun c => absurd c h, fun _ c => (by rw [c] at h3; cases h3), h4, h5⟩, fun g => ⟨⟨g.lo, g.hi⟩, ⟨by have := g.ne h; simpa using this, g.node⟩, g.once⟩⟩

theorem lexLt_irrefl : ∀ l, lexLt l l = false
  | [] => rfl
  | a :: l => by rw [lexLt, if_pos rfl]; exact lexLt_irrefl l
theorem lexLt_trans : ∀ {l m k : List Int}, lexLt l m = true → lexLt m k = true → lexLt l k = true
  | [], m, k, h, _ => by cases m <;> simp [lexLt] at h
  | a :: l, [], k, h, _ => by simp [lexLt] at h
  | a :: l, b :: m, [], _, h => by simp [lexLt] at h
  | a :: l, b :: m, c :: k, h1, h2 => by
    rw [lexLt] at h1 h2 ⊢
    by_cases e1 : a = b
    · subst e1
      rw [if_pos rfl] at h1
      by_cases e2 : a = c
      · rw [if_pos e2] at h2 ⊢; exact lexLt_trans h1 h2
      · rw [if_neg e2] at h2 ⊢; exact h2
    · rw [if_neg e1, decide_eq_true_eq] at h1
      by_cases e2 : b = c
      · subst e2; rw [if_neg e1, decide_eq_true_eq]; exact h1
      · rw [if_neg e2, decide_eq_true_eq] at h2
        rw [if_neg (by omega), decide_eq_true_eq]; omega
theorem lexLt_total : ∀ {l m : List Int}, l.length = m.length → l ≠ m → lexLt l m = true ∨ lexLt m l = true
  | [], [], _, h => absurd rfl h
  | [], _ :: _, h, _ => by cases h
  | _ :: _, [], h, _ => by cases h
  | a :: l, b :: m, h, hne => by
    rw [lexLt, lexLt]
    by_cases e : a = b
    · subst e
      rw [if_pos rfl, if_pos rfl]
      exact lexLt_total (by simpa using h) (fun c => hne (by rw [c]))
    · rw [if_neg e, if_neg (Ne.symm e), decide_eq_true_eq, decide_eq_true_eq]; omega

section
variable {n : Net}

/-- A weight that is a route. -/
def Net.InW (n : Net) (r : Rt) : Prop := 0 ≤ r.w ∧ r.w < n.a.size
theorem Net.Right.inW {r : Rt} (h : n.Right r) : n.InW r := ⟨h.lo, h.hi⟩

theorem Net.ahead_irrefl (r : Rt) : n.ahead r r = false := by
  unfold Net.ahead; rw [if_pos rfl, if_pos rfl]; exact lexLt_irrefl _
theorem Net.ahead_trans (g : n.Good) {a b c : Rt} (ha : n.InW a) (hb : n.InW b) (hc : n.InW c) (h1 : n.ahead a b = true) (h2 : n.ahead b c = true) : n.ahead a c = true := by
  unfold Net.ahead at *
  by_cases e1 : a.w = b.w
  · rw [if_pos e1] at h1
    by_cases e2 : b.w = c.w
    · rw [if_pos e2] at h2
      rw [if_pos (e1.trans e2)]
      by_cases l1 : a.p.length = b.p.length
      · rw [if_pos l1] at h1
        by_cases l2 : b.p.length = c.p.length
        · rw [if_pos l2] at h2; rw [if_pos (l1.trans l2)]; exact lexLt_trans h1 h2
        · rw [if_neg l2] at h2; rw [if_neg (by omega)]; rw [decide_eq_true_eq] at *; omega
      · rw [if_neg l1, decide_eq_true_eq] at h1
        by_cases l2 : b.p.length = c.p.length
        · rw [if_neg (by omega), decide_eq_true_eq]; omega
        · rw [if_neg l2, decide_eq_true_eq] at h2; rw [if_neg (by omega), decide_eq_true_eq]; omega
    · rw [if_neg e2] at h2
      rw [if_neg (by rw [e1]; exact e2), e1]; exact h2
  · rw [if_neg e1, beq_iff_eq] at h1
    by_cases e2 : b.w = c.w
    · rw [← e2, if_neg e1, beq_iff_eq]; exact h1
    · rw [if_neg e2, beq_iff_eq] at h2
      by_cases e3 : a.w = c.w
      · exfalso
        rw [← e3] at h2
        exact e1 (g.law.le_anti ha.1 ha.2 hb.1 hb.2 h1 h2)
      · rw [if_neg e3, beq_iff_eq]
        exact g.law.le_trans ha.1 ha.2 hb.1 hb.2 hc.1 hc.2 h1 h2
theorem Net.ahead_total (g : n.Good) {a b : Rt} (ha : n.InW a) (hb : n.InW b) (hne : a ≠ b) : n.ahead a b = true ∨ n.ahead b a = true := by
  unfold Net.ahead
  by_cases e1 : a.w = b.w
  · rw [if_pos e1, if_pos e1.symm]
    by_cases l1 : a.p.length = b.p.length
    · rw [if_pos l1, if_pos l1.symm]
      refine lexLt_total l1 (fun e => hne ?_)
      obtain ⟨a1, a2⟩ := a
      obtain ⟨b1, b2⟩ := b
      simp only at e1 e
      rw [e1, e]
    · rw [if_neg l1, if_neg (Ne.symm l1), decide_eq_true_eq, decide_eq_true_eq]; omega
  · rw [if_neg e1, if_neg (Ne.symm e1), beq_iff_eq, beq_iff_eq]
    rcases g.law.lt_total ha.1 ha.2 hb.1 hb.2 e1 with h | h
    · exact Or.inl h.1
    · exact Or.inr h.1
theorem Net.ahead_anti (g : n.Good) {a b : Rt} (ha : n.InW a) (hb : n.InW b) (h : n.ahead a b = true) : n.ahead b a = false := by
  cases e : n.ahead b a with
  | false => rfl
  | true =>
    have := n.ahead_trans g ha hb ha h e
    rw [n.ahead_irrefl] at this
    cases this
/-- Nothing is behind it that is right. -/
theorem Net.ahead_inv (g : n.Good) {r : Rt} (h : n.Right r) : n.ahead n.inv r = false := by
  have lo := g.law.good.lo
  unfold Net.ahead Net.inv
  by_cases e : n.a.size - 1 = r.w
  · rw [if_pos e, h.inv e.symm]; rfl
  · rw [if_neg e]
    have := g.law.last r.w h.lo h.hi
    rw [this]
    simp only [beq_eq_false_iff_ne, ne_eq]
    exact fun c => e c.symm

/-- Not behind. -/
def Net.le (n : Net) (a b : Rt) : Prop := n.ahead b a = false
theorem Net.le_refl (a : Rt) : n.le a a := n.ahead_irrefl a
theorem Net.le_trans (g : n.Good) {a b c : Rt} (ha : n.InW a) (hb : n.InW b) (hc : n.InW c) (h1 : n.le a b) (h2 : n.le b c) : n.le a c := by
  unfold Net.le at *
  cases e : n.ahead c a with
  | false => rfl
  | true =>
    exfalso
    by_cases e1 : a = b
    · subst e1; rw [e] at h2; cases h2
    · rcases n.ahead_total g ha hb e1 with h | h
      · have := n.ahead_trans g hc ha hb e h
        rw [this] at h2; cases h2
      · rw [h] at h1; cases h1
theorem Net.le_anti (g : n.Good) {a b : Rt} (ha : n.InW a) (hb : n.InW b) (h1 : n.le a b) (h2 : n.le b a) : a = b := by
  apply Classical.byContradiction
  intro hne
  unfold Net.le at *
  rcases n.ahead_total g ha hb hne with h | h
  · rw [h] at h2; cases h2
  · rw [h] at h1; cases h1
theorem Net.bestR_is (n : Net) (a b : Rt) : n.bestR a b = a ∨ n.bestR a b = b := by
  unfold Net.bestR; split
  · exact Or.inr rfl
  · exact Or.inl rfl
theorem Net.bestR_le (g : n.Good) {a b : Rt} (ha : n.InW a) (hb : n.InW b) : n.le (n.bestR a b) a ∧ n.le (n.bestR a b) b := by
  unfold Net.bestR
  by_cases h : n.ahead b a = true
  · rw [if_pos h]; exact ⟨n.ahead_anti g hb ha h, n.le_refl b⟩
  · rw [if_neg h]; exact ⟨n.le_refl a, by unfold Net.le; simpa using h⟩

theorem Net.inv_right (g : n.Good) : n.Right n.inv := by
  have lo := g.law.good.lo
  exact ⟨by show 0 ≤ n.a.size - 1; omega, by show n.a.size - 1 < n.a.size; omega, fun _ => rfl, fun h => absurd rfl h, fun c hc => (by cases hc), List.Pairwise.nil⟩
theorem Net.ownR_right (g : n.Good) {i : Nat} (hi : i < n.N) (j : Nat) : n.Right (n.ownR i j) := by
  have lo := g.law.good.lo
  unfold Net.ownR
  split
  · refine ⟨by simp, by show (0 : Int) < n.a.size; omega, fun h => by simp at h; omega, fun _ => by simp, fun c hc => ?_, by simp⟩
    simp at hc
    unfold Net.N at hi
    omega
  · exact n.inv_right g
theorem Net.ext_right (g : n.Good) {i e : Int} {r : Rt} (h : n.Right r) (h0 : 0 ≤ i) (h1 : i < n.nodes) (e0 : 0 ≤ e) (e1 : e < n.a.E.len) : n.Right (n.ext i e r) := by
  unfold Net.ext
  split
  · next hh =>
    have := g.law.good.edge e0 e1 h.lo h.hi
    refine ⟨this.1, this.2, fun c => absurd c hh.2.2, fun _ => by simp, fun c hc => ?_, List.nodup_cons.2 ⟨hh.2.1, h.once⟩⟩
    rcases List.mem_cons.1 hc with e | e
    · subst e; exact ⟨h0, h1⟩
    · exact h.node c e
  · exact n.inv_right g

/-- What is looked at. -/
theorem Net.pcand (g : n.Good) {f : Nat → Rt} (hf : ∀ k, k < n.N → n.Right (f k)) {i k : Nat} (hi : i < n.N) (hk : k < n.N) (he : 0 ≤ n.edge i k) : n.Right (n.ext i (n.edge i k) (f k)) :=
  n.ext_right g (hf k hk) (by omega) (by unfold Net.N at hi; omega) he (n.edge_lt g i k)
theorem Net.plink (g : n.Good) {f : Nat → Rt} (hf : ∀ k, k < n.N → n.Right (f k)) {i l : Nat} (hi : i < n.N) (hl : l < n.ln) : n.Right (n.ext i (n.E l) (f (n.T l).toNat)) := by
  have := g.link l hl
  exact n.ext_right g (hf _ (by unfold Net.N; omega)) (by omega) (by unfold Net.N at hi; omega) (by omega) (by omega)

theorem Net.pout_spec (g : n.Good) {f : Nat → Rt} (hf : ∀ k, k < n.N → n.Right (f k)) {i : Nat} (hi : i < n.N) (j : Nat) : ∀ m, m ≤ n.N →
    n.Right (n.pout i j f m) ∧ (n.pout i j f m = n.ownR i j ∨ ∃ k, k < m ∧ 0 ≤ n.edge i k ∧ n.pout i j f m = n.ext i (n.edge i k) (f k)) ∧
    n.le (n.pout i j f m) (n.ownR i j) ∧ ∀ k, k < m → 0 ≤ n.edge i k → n.le (n.pout i j f m) (n.ext i (n.edge i k) (f k)) := by
  intro m
  induction m with
  | zero => exact fun _ => ⟨n.ownR_right g hi j, Or.inl rfl, n.le_refl _, fun k hk => absurd hk (Nat.not_lt_zero _)⟩
  | succ m ih =>
    intro hm
    obtain ⟨r, s, t, u⟩ := ih (by omega)
    have h0 := n.ownR_right g hi j
    rw [Net.pout]
    by_cases he : 0 ≤ n.edge i m
    · rw [if_pos he]
      have hc := n.pcand g hf hi (k := m) (by omega) he
      obtain ⟨l1, l2⟩ := n.bestR_le g r.inW hc.inW
      have hr : n.Right (n.bestR (n.pout i j f m) (n.ext i (n.edge i m) (f m))) := by rcases n.bestR_is (n.pout i j f m) (n.ext i (n.edge i m) (f m)) with e | e <;> rw [e] <;> assumption
      refine ⟨hr, ?_, n.le_trans g hr.inW r.inW h0.inW l1 t, fun k hk hek => ?_⟩
      · rcases n.bestR_is (n.pout i j f m) (n.ext i (n.edge i m) (f m)) with e | e
        · rw [e]
          rcases s with s | ⟨k, hk, s1, s2⟩
          · exact Or.inl s
          · exact Or.inr ⟨k, by omega, s1, s2⟩
        · exact Or.inr ⟨m, by omega, he, e⟩
      · by_cases ek : k = m
        · subst ek; exact l2
        · exact n.le_trans g hr.inW r.inW (n.pcand g hf hi (k := k) (by omega) hek).inW l1 (u k (by omega) hek)
    · rw [if_neg he]
      refine ⟨r, ?_, t, fun k hk hek => ?_⟩
      · rcases s with s | ⟨k, hk, s1, s2⟩
        · exact Or.inl s
        · exact Or.inr ⟨k, by omega, s1, s2⟩
      · by_cases ek : k = m
        · subst ek; exact absurd hek he
        · exact u k (by omega) hek
theorem Net.plook_spec (g : n.Good) {f : Nat → Rt} (hf : ∀ k, k < n.N → n.Right (f k)) {i : Nat} (hi : i < n.N) (j : Nat) : ∀ m, m ≤ n.ln →
    n.Right (n.plook i j f m) ∧ (n.plook i j f m = n.ownR i j ∨ ∃ l, l < m ∧ n.F l = i ∧ n.plook i j f m = n.ext i (n.E l) (f (n.T l).toNat)) ∧
    n.le (n.plook i j f m) (n.ownR i j) ∧ ∀ l, l < m → n.F l = i → n.le (n.plook i j f m) (n.ext i (n.E l) (f (n.T l).toNat)) := by
  intro m
  induction m with
  | zero => exact fun _ => ⟨n.ownR_right g hi j, Or.inl rfl, n.le_refl _, fun k hk => absurd hk (Nat.not_lt_zero _)⟩
  | succ m ih =>
    intro hm
    obtain ⟨r, s, t, u⟩ := ih (by omega)
    have h0 := n.ownR_right g hi j
    rw [Net.plook]
    by_cases he : n.F m = i
    · rw [if_pos he]
      have hc := n.plink g hf hi (l := m) (by omega)
      obtain ⟨l1, l2⟩ := n.bestR_le g r.inW hc.inW
      have hr : n.Right (n.bestR (n.plook i j f m) (n.ext i (n.E m) (f (n.T m).toNat))) := by rcases n.bestR_is (n.plook i j f m) (n.ext i (n.E m) (f (n.T m).toNat)) with e | e <;> rw [e] <;> assumption
      refine ⟨hr, ?_, n.le_trans g hr.inW r.inW h0.inW l1 t, fun k hk hek => ?_⟩
      · rcases n.bestR_is (n.plook i j f m) (n.ext i (n.E m) (f (n.T m).toNat)) with e | e
        · rw [e]
          rcases s with s | ⟨k, hk, s1, s2⟩
          · exact Or.inl s
          · exact Or.inr ⟨k, by omega, s1, s2⟩
        · exact Or.inr ⟨m, by omega, he, e⟩
      · by_cases ek : k = m
        · subst ek; exact l2
        · exact n.le_trans g hr.inW r.inW (n.plink g hf hi (l := k) (by omega)).inW l1 (u k (by omega) hek)
    · rw [if_neg he]
      refine ⟨r, ?_, t, fun k hk hek => ?_⟩
      · rcases s with s | ⟨k, hk, s1, s2⟩
        · exact Or.inl s
        · exact Or.inr ⟨k, by omega, s1, s2⟩
      · by_cases ek : k = m
        · subst ek; exact absurd hek he
        · exact u k (by omega) hek
/-- The order of links is nothing. -/
theorem Net.plook_route (h : n.check = 0) {f : Nat → Rt} (hf : ∀ k, k < n.N → n.Right (f k)) {i : Nat} (hi : i < n.N) (j : Nat) : n.plook i j f n.ln = n.proute i j f := by
  have g := Net.good_of_check h
  obtain ⟨r, s, t, u⟩ := n.plook_spec g hf hi j n.ln (Nat.le_refl _)
  obtain ⟨r', s', t', u'⟩ := n.pout_spec g hf hi j n.N (Nat.le_refl _)
  unfold Net.proute
  refine n.le_anti g r.inW r'.inW ?_ ?_
  · rcases s' with s' | ⟨k, hk, s1, s2⟩
    · rw [s']; exact t
    · obtain ⟨l, hl, e1, e2, e3⟩ := n.link_edge s1
      have := u l hl e1
      rw [e2, e3] at this
      rw [s2]
      simpa using this
  · rcases s with s | ⟨l, hl, s1, s2⟩
    · rw [s]; exact t'
    · have gl := g.link l hl
      have ek : n.edge i ((n.T l).toNat : Nat) = n.E l := by
        rw [← s1, show (((n.T l).toNat : Nat) : Int) = n.T l by omega]
        exact n.edge_link h hl
      have := u' (n.T l).toNat (by unfold Net.N; omega) (by rw [ek]; exact gl.2.2.2.2.1)
      rw [ek] at this
      rw [s2]
      exact this

/-- A state of right routes, each from its node to its node. -/
structure Net.PAt (n : Net) (r : Rt) (i j : Nat) : Prop where
  right : n.Right r
  head : r.w ≠ n.a.size - 1 → r.p.head? = some (i : Int)
  last : r.w ≠ n.a.size - 1 → r.p.getLast? = some (j : Int)
def Net.PState (n : Net) (x : Nat → Nat → Rt) : Prop := ∀ i j, i < n.N → j < n.N → n.PAt (x i j) i j

theorem Net.ownR_at (g : n.Good) {i : Nat} (hi : i < n.N) (j : Nat) : n.PAt (n.ownR i j) i j := by
  refine ⟨n.ownR_right g hi j, ?_, ?_⟩
  all_goals
    unfold Net.ownR
    split
    · next e => intro _; simp [e]
    · exact fun h => absurd rfl h
theorem Net.ext_at (g : n.Good) {i k j : Nat} {r : Rt} (h : n.PAt r k j) (hi : i < n.N) (he : 0 ≤ n.edge i k) : n.PAt (n.ext i (n.edge i k) r) i j := by
  refine ⟨n.ext_right g h.right (by omega) (by unfold Net.N at hi; omega) he (n.edge_lt g i k), ?_, ?_⟩
  all_goals
    unfold Net.ext
    split
    · next hh =>
      intro _
      have hv : r.w ≠ n.a.size - 1 := by simpa [Net.valid] using hh.1
      first
      | rfl
      | (have hl := h.last hv
         have hn := h.right.ne hv
         show ((i : Int) :: r.p).getLast? = _
         cases hp : r.p with
         | nil => exact absurd hp hn
         | cons c l => rw [List.getLast?_cons_cons, ← hp]; exact hl)
    · exact fun c => absurd rfl c
theorem Net.PState.round (g : n.Good) {x : Nat → Nat → Rt} (hx : n.PState x) : n.PState (n.pround x) := fun i j hi hj => by
  obtain ⟨_, s, _, _⟩ := n.pout_spec g (f := fun k => x k j) (fun k hk => (hx k j hk hj).right) hi j n.N (Nat.le_refl _)
  show n.PAt (n.pout i j (fun k => x k j) n.N) i j
  rcases s with s | ⟨k, hk, s1, s2⟩
  · rw [s]; exact n.ownR_at g hi j
  · rw [s2]; exact n.ext_at g (hx k j hk hj) hi s1
theorem Net.PState.iter (g : n.Good) {x : Nat → Nat → Rt} (hx : n.PState x) : ∀ m, n.PState (n.piter m x) := by
  intro m
  induction m generalizing x with
  | zero => exact hx
  | succ m ih => exact ih (hx.round g)
theorem Net.piter_round (x : Nat → Nat → Rt) : ∀ m, n.piter m (n.pround x) = n.pround (n.piter m x) := by
  intro m
  induction m generalizing x with
  | zero => rfl
  | succ m ih => exact ih (n.pround x)
theorem Net.piter_add (x : Nat → Nat → Rt) (k : Nat) : ∀ m, n.piter (m + k) x = n.piter k (n.piter m x) := by
  intro m
  induction m generalizing x with
  | zero => rw [Nat.zero_add]; rfl
  | succ m ih => rw [show m + 1 + k = (m + k) + 1 by omega]; exact ih (n.pround x)
theorem Net.pout_congr {f h : Nat → Rt} (e : ∀ k, k < n.N → f k = h k) (i j : Nat) : ∀ m, m ≤ n.N → n.pout i j f m = n.pout i j h m := by
  intro m
  induction m with
  | zero => intro _; rfl
  | succ m ih =>
    intro hm
    simp only [Net.pout]
    rw [ih (by omega), e m (by omega)]
theorem Net.pround_congr {x y : Nat → Nat → Rt} (e : ∀ i j, i < n.N → j < n.N → x i j = y i j) : ∀ i j, i < n.N → j < n.N → n.pround x i j = n.pround y i j :=
  fun i j _ hj => n.pout_congr (fun k hk => e k j hk hj) i j n.N (Nat.le_refl _)
theorem Net.piter_congr {x y : Nat → Nat → Rt} (e : ∀ i j, i < n.N → j < n.N → x i j = y i j) : ∀ m i j, i < n.N → j < n.N → n.piter m x i j = n.piter m y i j := by
  intro m
  induction m generalizing x y with
  | zero => exact e
  | succ m ih => exact ih (n.pround_congr e)
theorem Net.pfix_iter {p : Nat → Nat → Rt} (h : ∀ i j, i < n.N → j < n.N → n.pround p i j = p i j) : ∀ m i j, i < n.N → j < n.N → n.piter m p i j = p i j := by
  intro m
  induction m with
  | zero => exact fun i j _ _ => rfl
  | succ m ih =>
    intro i j hi hj
    show n.piter m (n.pround p) i j = p i j
    rw [n.piter_congr h m i j hi hj]
    exact ih i j hi hj
theorem Net.psettle_iter (x : Nat → Nat → Rt) : ∀ m, (n.psettle m x).1 = n.piter (n.psettle m x).2 x ∧ (n.psettle m x).2 ≤ m ∧ ((n.psettle m x).2 < m → n.psame (n.psettle m x).1 (n.pround (n.psettle m x).1) = true) ∧ ∀ k, k < (n.psettle m x).2 → n.psame (n.piter k x) (n.pround (n.piter k x)) = false := by
  intro m
  induction m generalizing x with
  | zero => exact ⟨rfl, Nat.le_refl _, fun h => absurd h (Nat.not_lt_zero _), fun k hk => absurd hk (Nat.not_lt_zero _)⟩
  | succ m ih =>
    unfold Net.psettle
    by_cases h : n.psame x (n.pround x) = true
    · rw [if_pos h]
      exact ⟨rfl, Nat.zero_le _, fun _ => h, fun k hk => absurd hk (Nat.not_lt_zero _)⟩
    · rw [if_neg h]
      obtain ⟨i1, i2, i3, i4⟩ := ih (n.pround x)
      refine ⟨i1, Nat.succ_le_succ i2, fun h' => i3 (Nat.lt_of_succ_lt_succ h'), fun k hk => ?_⟩
      cases k with
      | zero => show n.psame x (n.pround x) = false; simpa using h
      | succ k => exact i4 k (Nat.lt_of_succ_lt_succ hk)
end

end Go.Proofs.Ytjhkadffaephmab

/-
  Routes with paths: plain mathematics. From whatever state it settles, always to the same.
-/
namespace Go.Proofs.Ytjhkadffaephmab

/-- Paths of so many nodes more than one that end there. -/
def layer (j : Int) : Nat → List (List Int)
  | 0 => [[j]]
  | l + 1 => (layer j l).flatMap fun p => (([0, 1, 2, 3, 4, 5] : List Int).filter fun c => !p.contains c).map fun c => c :: p
def allP (j : Int) : List (List Int) := (List.range 6).flatMap (layer j)

theorem mem_layer : ∀ (l : Nat) (j : Int) (p : List Int), p.Nodup → (∀ c ∈ p, 0 ≤ c ∧ c < 6) → p.getLast? = some j → p.length = l + 1 → p ∈ layer j l
  | 0, j, p, _, _, h3, h4 => by
    cases p with
    | nil => cases h4
    | cons a p =>
      have : p = [] := List.length_eq_zero_iff.1 (by simpa using h4)
      subst this
      simp at h3
      rw [h3, layer]; simp
  | l + 1, j, p, h1, h2, h3, h4 => by
    cases p with
    | nil => cases h4
    | cons a p =>
      have h4' : p.length = l + 1 := by simpa using h4
      have hne : p ≠ [] := fun e => by rw [e] at h4'; cases h4'
      obtain ⟨n1, n2⟩ := List.nodup_cons.1 h1
      have hl : p.getLast? = some j := by
        cases p with
        | nil => exact absurd rfl hne
        | cons b p => rw [List.getLast?_cons_cons] at h3; exact h3
      have := mem_layer l j p n2 (fun c hc => h2 c (by simp [hc])) hl h4'
      rw [layer, List.mem_flatMap]
      refine ⟨p, this, ?_⟩
      rw [List.mem_map]
      refine ⟨a, ?_, rfl⟩
      rw [List.mem_filter]
      have ha := h2 a (by simp)
      refine ⟨?_, by simpa using n1⟩
      have : a = 0 ∨ a = 1 ∨ a = 2 ∨ a = 3 ∨ a = 4 ∨ a = 5 := by omega
      simpa using this
theorem mem_allP {j : Int} {p : List Int} (h1 : p.Nodup) (h2 : ∀ c ∈ p, 0 ≤ c ∧ c < 6) (h3 : p.getLast? = some j) : p ∈ allP j := by
  have hl := nodup_len 6 p h1 (fun c hc => by have := h2 c hc; omega)
  have hne : 0 < p.length := by
    cases p with
    | nil => cases h3
    | cons a p => simp
  unfold allP
  rw [List.mem_flatMap]
  exact ⟨p.length - 1, by simp; omega, mem_layer _ j p h1 h2 h3 (by omega)⟩
theorem allP_len {j : Int} (h0 : 0 ≤ j) (h1 : j < 6) : (allP j).length = 326 := by
  have : j = 0 ∨ j = 1 ∨ j = 2 ∨ j = 3 ∨ j = 4 ∨ j = 5 := by omega
  rcases this with e | e | e | e | e | e <;> subst e <;> decide +kernel

/-- It is ahead, and a path that tells what it weighs. -/
def Net.counts (n : Net) (r : Rt) (c : List Int) : Bool :=
  match n.weigh c with
  | some w => (w != n.a.size - 1) && n.ahead ⟨w, c⟩ r
  | none => false
def Net.prank (n : Net) (j : Nat) (r : Rt) : Nat := (allP j).countP (n.counts r)

theorem countP_lt' {α : Type} {p q : α → Bool} : ∀ {l : List α}, (∀ c ∈ l, p c = true → q c = true) → (∃ c ∈ l, p c = false ∧ q c = true) → l.countP p < l.countP q
  | [], _, h => by simp at h
  | c :: l, h1, h2 => by
    have hl : l.countP p ≤ l.countP q := List.countP_mono_left (fun d hd => h1 d (by simp [hd]))
    rw [List.countP_cons, List.countP_cons]
    obtain ⟨d, hd, e1, e2⟩ := h2
    rcases List.mem_cons.1 hd with rfl | hd
    · rw [e1, e2]; simp; omega
    · have := countP_lt' (fun d hd => h1 d (by simp [hd])) ⟨d, hd, e1, e2⟩
      have hc := h1 c (by simp)
      cases hp : p c with
      | true => rw [hc hp]; simp; omega
      | false => cases hq : q c <;> simp <;> omega

section
variable {n : Net}

/-- It tells what it weighs. -/
def Net.Con (n : Net) (r : Rt) : Prop := r.w = n.a.size - 1 ∨ n.weigh r.p = some r.w

theorem Net.ownR_con (i j : Nat) : n.Con (n.ownR i j) := by
  unfold Net.ownR
  split
  · right; exact n.weigh_one _
  · left; rfl
theorem Net.ext_con {i k j : Nat} {r : Rt} (h : n.PAt r k j) (hc : n.Con r) (he : 0 ≤ n.edge i k) : n.Con (n.ext i (n.edge i k) r) := by
  unfold Net.ext
  split
  · next hh =>
    have hv : r.w ≠ n.a.size - 1 := by simpa [Net.valid] using hh.1
    right
    rcases hc with hc | hc
    · exact absurd hc hv
    · have hhd := h.head hv
      show n.weigh ((i : Int) :: r.p) = some (n.a.E.get (n.edge i k) r.w)
      cases hp : r.p with
      | nil => rw [hp] at hhd; cases hhd
      | cons c l =>
        rw [hp] at hhd hc
        simp only [List.head?_cons, Option.some.injEq] at hhd
        subst hhd
        rw [n.weigh_two, if_pos he, hc]
        rfl
  · left; rfl
/-- Behind as many rounds no path is made up, but those that are so long. -/
theorem Net.piter_con (g : n.Good) {x : Nat → Nat → Rt} (hx : n.PState x) : ∀ m i j, i < n.N → j < n.N → n.Con (n.piter m x i j) ∨ m + 1 ≤ (n.piter m x i j).p.length := by
  intro m
  induction m with
  | zero =>
    intro i j hi hj
    have h := (hx i j hi hj).right
    by_cases hv : (x i j).w = n.a.size - 1
    · exact Or.inl (Or.inl hv)
    · right
      have := h.ne hv
      show 0 + 1 ≤ (x i j).p.length
      cases hp : (x i j).p with
      | nil => exact absurd hp this
      | cons a l => simp
  | succ m ih =>
    intro i j hi hj
    show n.Con (n.piter m (n.pround x) i j) ∨ _ ≤ (n.piter m (n.pround x) i j).p.length
    rw [n.piter_round]
    have hm := hx.iter g m
    obtain ⟨_, s, _, _⟩ := n.pout_spec g (f := fun k => n.piter m x k j) (fun k hk => (hm k j hk hj).right) hi j n.N (Nat.le_refl _)
    show n.Con (n.pout i j (fun k => n.piter m x k j) n.N) ∨ _ ≤ (n.pout i j (fun k => n.piter m x k j) n.N).p.length
    rcases s with s | ⟨k, hk, s1, s2⟩
    · rw [s]; exact Or.inl (n.ownR_con i j)
    · rw [s2]
      rcases ih k j hk hj with h | h
      · exact Or.inl (n.ext_con (hm k j hk hj) h s1)
      · unfold Net.ext
        split
        · right; show m + 1 + 1 ≤ (_ :: _ : List Int).length; simp; omega
        · exact Or.inl (Or.inl rfl)
theorem Net.piter_all (g : n.Good) {x : Nat → Nat → Rt} (hx : n.PState x) {m : Nat} (hm : n.N ≤ m) : ∀ i j, i < n.N → j < n.N → n.Con (n.piter m x i j) := fun i j hi hj => by
  rcases n.piter_con g hx m i j hi hj with h | h
  · exact h
  · exfalso
    have hr := (hx.iter g m i j hi hj).right
    have := nodup_len n.N _ hr.once (fun c hc => by have := hr.node c hc; unfold Net.N; omega)
    omega

/-- A route to j that tells what it weighs. -/
structure Net.PCon (n : Net) (r : Rt) (i j : Nat) : Prop where
  at_ : n.PAt r i j
  con : n.Con r

theorem Net.prank_lt (g : n.Good) {r s : Rt} {i j : Nat} (hr : n.PCon r i j) (hs : n.InW s) (hv : r.w ≠ n.a.size - 1) (h : n.ahead r s = true) : n.prank j r < n.prank j s := by
  have h6 := g.hi
  have hw : n.weigh r.p = some r.w := hr.con.resolve_left hv
  refine countP_lt' (fun c _ hc => ?_) ⟨r.p, mem_allP hr.at_.right.once (fun c hc => by have := hr.at_.right.node c hc; omega) (hr.at_.last hv), ?_, ?_⟩
  · unfold Net.counts at hc ⊢
    cases e : n.weigh c with
    | none => rw [e] at hc; cases hc
    | some w =>
      rw [e] at hc
      simp only [Bool.and_eq_true] at hc ⊢
      exact ⟨hc.1, n.ahead_trans g (n.weigh_in g e) hr.at_.right.inW hs hc.2 h⟩
  · unfold Net.counts
    rw [hw]
    simp only [Bool.and_eq_false_iff]
    exact Or.inr (n.ahead_irrefl r)
  · unfold Net.counts
    rw [hw]
    simp only [Bool.and_eq_true, bne_iff_ne]
    exact ⟨hv, h⟩
theorem Net.prank_le (g : n.Good) {r : Rt} {i j : Nat} (hj : j < n.N) (hr : n.PCon r i j) (hv : r.w ≠ n.a.size - 1) : n.prank j r < 326 := by
  have h6 := g.hi
  have hw : n.weigh r.p = some r.w := hr.con.resolve_left hv
  have : n.prank j r < (allP j).countP (fun _ => true) := by
    refine countP_lt' (fun _ _ _ => rfl) ⟨r.p, mem_allP hr.at_.right.once (fun c hc => by have := hr.at_.right.node c hc; omega) (hr.at_.last hv), ?_, rfl⟩
    unfold Net.counts
    rw [hw]
    simp only [Bool.and_eq_false_iff]
    exact Or.inr (n.ahead_irrefl r)
  have hl := allP_len (j := j) (by omega) (by unfold Net.N at hj; omega)
  simpa [hl] using this

/-- What is ahead of a right one is valid. -/
theorem Net.ahead_valid (g : n.Good) {r s : Rt} (hr : n.Right r) (hs : n.Right s) (h : n.ahead r s = true) : r.w ≠ n.a.size - 1 := fun e => by
  have : r = n.inv := by
    have := hr.inv e
    obtain ⟨a, b⟩ := r
    simp only at e this
    unfold Net.inv
    rw [e, this]
  rw [this, n.ahead_inv g hs] at h
  cases h
theorem Net.ext_ahead (g : n.Good) {i k : Nat} {r : Rt} (h : n.Right r) (he : 0 ≤ n.edge i k) (hv : (n.ext i (n.edge i k) r).w ≠ n.a.size - 1) : r.w ≠ n.a.size - 1 ∧ n.ahead r (n.ext i (n.edge i k) r) = true := by
  unfold Net.ext at hv ⊢
  split at hv
  · next hh =>
    have hrv : r.w ≠ n.a.size - 1 := by simpa [Net.valid] using hh.1
    refine ⟨hrv, ?_⟩
    rw [if_pos hh]
    unfold Net.ahead
    show (if r.w = n.a.E.get (n.edge i k) r.w then _ else _) = true
    by_cases e : r.w = n.a.E.get (n.edge i k) r.w
    · rw [if_pos e]
      show (if r.p.length = ((i : Int) :: r.p).length then _ else decide (r.p.length < ((i : Int) :: r.p).length)) = true
      rw [if_neg (by simp)]
      simp
    · rw [if_neg e, beq_iff_eq]
      exact g.law.incr _ _ he (n.edge_lt g i k) h.lo h.hi
  · exact absurd rfl hv

def Net.PNear (n : Net) (j m : Nat) (f h : Nat → Rt) : Prop := ∀ k, k < n.N → f k = h k ∨ (m ≤ n.prank j (f k) ∧ m ≤ n.prank j (h k))

theorem Net.pnear_lt (g : n.Good) {f h : Nat → Rt} {j : Nat} (hf : ∀ k, k < n.N → n.PCon (f k) k j) (hh : ∀ k, k < n.N → n.PCon (h k) k j) {m : Nat} (hn : n.PNear j m f h) {i : Nat} (hi : i < n.N) (hl : n.ahead (n.proute i j f) (n.proute i j h) = true) : m + 1 ≤ n.prank j (n.proute i j f) := by
  obtain ⟨r, s, _, _⟩ := n.pout_spec g (fun k hk => (hf k hk).at_.right) hi j n.N (Nat.le_refl _)
  obtain ⟨r', _, t', u'⟩ := n.pout_spec g (fun k hk => (hh k hk).at_.right) hi j n.N (Nat.le_refl _)
  unfold Net.proute at *
  have hv := n.ahead_valid g r r' hl
  rcases s with s | ⟨k, hk, s1, s2⟩
  · exfalso
    unfold Net.le at t'
    rw [← s, hl] at t'
    cases t'
  · rcases hn k hk with e | ⟨e, _⟩
    · exfalso
      have := u' k hk s1
      unfold Net.le at this
      rw [← e, ← s2, hl] at this
      cases this
    · rw [s2] at hv
      obtain ⟨v1, v2⟩ := n.ext_ahead g (hf k hk).at_.right s1 hv
      rw [s2]
      have := n.prank_lt g (hf k hk) (n.pcand g (fun k hk => (hf k hk).at_.right) hi hk s1).inW v1 v2
      omega
theorem Net.pround_con (g : n.Good) {f : Nat → Rt} {j : Nat} (hf : ∀ k, k < n.N → n.PCon (f k) k j) {i : Nat} (hi : i < n.N) : n.PCon (n.proute i j f) i j := by
  obtain ⟨_, s, _, _⟩ := n.pout_spec g (fun k hk => (hf k hk).at_.right) hi j n.N (Nat.le_refl _)
  unfold Net.proute
  rcases s with s | ⟨k, hk, s1, s2⟩
  · rw [s]; exact ⟨n.ownR_at g hi j, n.ownR_con i j⟩
  · rw [s2]; exact ⟨n.ext_at g (hf k hk).at_ hi s1, n.ext_con (hf k hk).at_ (hf k hk).con s1⟩
theorem Net.pnear_succ (g : n.Good) {f h : Nat → Rt} {j : Nat} (hf : ∀ k, k < n.N → n.PCon (f k) k j) (hh : ∀ k, k < n.N → n.PCon (h k) k j) {m : Nat} (hn : n.PNear j m f h) : n.PNear j (m + 1) (fun i => n.proute i j f) (fun i => n.proute i j h) := fun i hi => by
  by_cases e : n.proute i j f = n.proute i j h
  · exact Or.inl e
  · have cf := n.pround_con g hf hi
    have ch := n.pround_con g hh hi
    right
    rcases n.ahead_total g cf.at_.right.inW ch.at_.right.inW e with hl | hl
    · have a1 := n.pnear_lt g hf hh hn hi hl
      have a2 := n.prank_lt g cf ch.at_.right.inW (n.ahead_valid g cf.at_.right ch.at_.right hl) hl
      exact ⟨a1, by show m + 1 ≤ n.prank j (n.proute i j h); omega⟩
    · have a1 := n.pnear_lt g hh hf (fun k hk => by
        rcases hn k hk with e | ⟨e1, e2⟩
        · exact Or.inl e.symm
        · exact Or.inr ⟨e2, e1⟩) hi hl
      have a2 := n.prank_lt g ch cf.at_.right.inW (n.ahead_valid g ch.at_.right cf.at_.right hl) hl
      exact ⟨by show m + 1 ≤ n.prank j (n.proute i j f); omega, a1⟩
theorem Net.pnear_end (g : n.Good) {f h : Nat → Rt} {j : Nat} (hj : j < n.N) (hf : ∀ k, k < n.N → n.PCon (f k) k j) (hh : ∀ k, k < n.N → n.PCon (h k) k j) (hn : n.PNear j 326 f h) : ∀ k, k < n.N → f k = h k := fun k hk => by
  rcases hn k hk with e | ⟨e1, e2⟩
  · exact e
  · apply Classical.byContradiction
    intro hne
    rcases n.ahead_total g (hf k hk).at_.right.inW (hh k hk).at_.right.inW hne with hl | hl
    · have := n.prank_le g hj (hf k hk) (n.ahead_valid g (hf k hk).at_.right (hh k hk).at_.right hl)
      omega
    · have := n.prank_le g hj (hh k hk) (n.ahead_valid g (hh k hk).at_.right (hf k hk).at_.right hl)
      omega

/-- A state whose paths tell what they weigh. -/
def Net.PConS (n : Net) (x : Nat → Nat → Rt) : Prop := ∀ i j, i < n.N → j < n.N → n.PCon (x i j) i j
theorem Net.PConS.iter (g : n.Good) {x : Nat → Nat → Rt} (hx : n.PConS x) : ∀ m, n.PConS (n.piter m x) := by
  intro m
  induction m generalizing x with
  | zero => exact hx
  | succ m ih => exact ih (fun i j hi hj => n.pround_con g (fun k hk => hx k j hk hj) hi)
theorem Net.piter_near (g : n.Good) {x y : Nat → Nat → Rt} (hx : n.PConS x) (hy : n.PConS y) : ∀ m j, j < n.N → n.PNear j m (fun k => n.piter m x k j) (fun k => n.piter m y k j) := by
  intro m
  induction m with
  | zero => exact fun j _ k _ => Or.inr ⟨Nat.zero_le _, Nat.zero_le _⟩
  | succ m ih =>
    intro j hj
    have := n.pnear_succ g (fun k hk => hx.iter g m k j hk hj) (fun k hk => hy.iter g m k j hk hj) (ih j hj)
    have e : ∀ z : Nat → Nat → Rt, (fun k => n.piter (m + 1) z k j) = fun i => n.proute i j (fun k => n.piter m z k j) := fun z => by
      funext k
      show n.piter m (n.pround z) k j = _
      rw [n.piter_round]
      rfl
    rw [e x, e y]
    exact this
/-- Behind so many rounds all are the same. -/
theorem Net.piter_same (g : n.Good) {x y : Nat → Nat → Rt} (hx : n.PState x) (hy : n.PState y) : ∀ i j, i < n.N → j < n.N → n.piter 332 x i j = n.piter 332 y i j := fun i j hi hj => by
  have h6 : n.N ≤ 6 := by have := g.hi; unfold Net.N; omega
  have cx : n.PConS (n.piter 6 x) := fun i j hi hj => ⟨hx.iter g 6 i j hi hj, n.piter_all g hx h6 i j hi hj⟩
  have cy : n.PConS (n.piter 6 y) := fun i j hi hj => ⟨hy.iter g 6 i j hi hj, n.piter_all g hy h6 i j hi hj⟩
  have := n.pnear_end g hj (fun k hk => cx.iter g 326 k j hk hj) (fun k hk => cy.iter g 326 k j hk hj) (n.piter_near g cx cy 326 j hj) i hi
  rw [show (332 : Nat) = 6 + 326 from rfl, n.piter_add, n.piter_add]
  exact this

/-- From whatever state it settles, always to the same, and all that comes tells what it weighs. -/
theorem Net.psettle_always (g : n.Good) {x : Nat → Nat → Rt} (hx : n.PState x) :
    (n.psettle 500 x).2 < 500 ∧ n.PConS (n.psettle 500 x).1 ∧ ∀ i j, i < n.N → j < n.N → n.pround (n.psettle 500 x).1 i j = (n.psettle 500 x).1 i j := by
  obtain ⟨h1, h2, h3, h4⟩ := n.psettle_iter x 500
  have hk : (n.psettle 500 x).2 ≤ 332 := by
    apply Classical.byContradiction
    intro hn
    have := h4 332 (by omega)
    have hsm : n.psame (n.piter 332 x) (n.pround (n.piter 332 x)) = true := Net.psame_iff.2 (fun i j hi hj => by
      rw [← n.piter_round]
      exact n.piter_same g hx (hx.round g) i j hi hj)
    rw [hsm] at this
    cases this
  have hfix : ∀ i j, i < n.N → j < n.N → n.pround (n.psettle 500 x).1 i j = (n.psettle 500 x).1 i j := fun i j hi hj => (Net.psame_iff.1 (h3 (by omega)) i j hi hj).symm
  have hst : n.PState (n.psettle 500 x).1 := by rw [h1]; exact hx.iter g _
  refine ⟨by omega, fun i j hi hj => ⟨hst i j hi hj, ?_⟩, hfix⟩
  have := n.piter_all g hst (Nat.le_refl _) i j hi hj
  rw [n.pfix_iter hfix n.N i j hi hj] at this
  exact this
theorem Net.psettle_one (g : n.Good) {x y : Nat → Nat → Rt} (hx : n.PState x) (hy : n.PState y) : ∀ i j, i < n.N → j < n.N → (n.psettle 500 x).1 i j = (n.psettle 500 y).1 i j := fun i j hi hj => by
  obtain ⟨_, c1, f1⟩ := n.psettle_always g hx
  obtain ⟨_, c2, f2⟩ := n.psettle_always g hy
  have := n.piter_same g (fun i j hi hj => (c1 i j hi hj).at_) (fun i j hi hj => (c2 i j hi hj).at_) i j hi hj
  rw [n.pfix_iter f1 _ i j hi hj, n.pfix_iter f2 _ i j hi hj] at this
  exact this
end

end Go.Proofs.Ytjhkadffaephmab
