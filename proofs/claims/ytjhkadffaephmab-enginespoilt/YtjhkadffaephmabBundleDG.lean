/-
  Our own texts, bundled: a claim holds few files.
-/
import Derived.Test.YtjhkadffaephmabBundleBE
/-
  Paths and tables: plain mathematics. What paths weigh, the best of all, where a table leads.
-/
namespace Go.Proofs.Ytjhkadffaephmab

/-- What a path weighs; none: it is no path. -/
def Net.weigh (n : Net) : List Int → Option Int
  | [] => none
  | a :: l => match l with
    | [] => some 0
    | b :: _ => if 0 ≤ n.edge a b then (n.weigh l).map (n.a.E.get (n.edge a b)) else none

theorem Net.weigh_one (n : Net) (a : Int) : n.weigh [a] = some 0 := by rw [Net.weigh]
theorem Net.weigh_two (n : Net) (a b : Int) (l : List Int) : n.weigh (a :: b :: l) = if 0 ≤ n.edge a b then (n.weigh (b :: l)).map (n.a.E.get (n.edge a b)) else none := by rw [Net.weigh]

/-- The best of what the paths of a set weigh. -/
structure Net.Least (n : Net) (S : List Int → Prop) (r : Int) : Prop where
  lo : 0 ≤ r
  hi : r < n.a.size
  is : r = n.a.size - 1 ∨ ∃ p, S p ∧ n.weigh p = some r
  all : ∀ p w, S p → n.weigh p = some w → n.a.B.get r w = r

section
variable {n : Net}

theorem Net.weigh_in (g : n.Good) : ∀ {p : List Int} {w : Int}, n.weigh p = some w → 0 ≤ w ∧ w < n.a.size
  | [], w, h => by rw [Net.weigh] at h; cases h
  | [a], w, h => by
    rw [n.weigh_one] at h
    have := g.law.good.lo
    cases h
    omega
  | a :: b :: l, w, h => by
    rw [n.weigh_two] at h
    split at h
    · next he =>
      rw [Option.map_eq_some_iff] at h
      obtain ⟨v, hv, rfl⟩ := h
      have := Net.weigh_in g hv
      exact g.law.good.edge he (n.edge_lt g a b) this.1 this.2
    · cases h
theorem Net.weigh_tail {a : Int} {l : List Int} {w : Int} (h : n.weigh (a :: l) = some w) (hl : l ≠ []) : ∃ b t v, l = b :: t ∧ 0 ≤ n.edge a b ∧ n.weigh l = some v ∧ w = n.a.E.get (n.edge a b) v := by
  cases l with
  | nil => exact absurd rfl hl
  | cons b t =>
    rw [n.weigh_two] at h
    split at h
    · next he =>
      rw [Option.map_eq_some_iff] at h
      obtain ⟨v, hv, rfl⟩ := h
      exact ⟨b, t, v, rfl, he, hv, rfl⟩
    · cases h
/-- What stands ahead of the rest of a path has a link to it. -/
theorem Net.weigh_mid : ∀ {pre : List Int} {a b : Int} {l : List Int} {w : Int}, n.weigh (pre ++ a :: b :: l) = some w → 0 ≤ n.edge a b
  | [], a, b, l, w, h => by
    obtain ⟨_, _, _, e, he, _⟩ := Net.weigh_tail (l := b :: l) h (by simp)
    cases e
    exact he
  | c :: pre, a, b, l, w, h => by
    obtain ⟨_, _, v, _, _, hv, _⟩ := Net.weigh_tail (l := pre ++ a :: b :: l) h (by simp)
    exact Net.weigh_mid hv

theorem Net.best_in (g : n.Good) {r s : Int} (h0 : 0 ≤ r) (h1 : r < n.a.size) (h2 : 0 ≤ s) (h3 : s < n.a.size) : 0 ≤ n.a.B.get r s ∧ n.a.B.get r s < n.a.size := by
  rcases g.law.sel r s h0 h1 h2 h3 with e | e <;> rw [e] <;> omega
theorem Net.best_le (g : n.Good) {r s : Int} (h0 : 0 ≤ r) (h1 : r < n.a.size) (h2 : 0 ≤ s) (h3 : s < n.a.size) : n.a.B.get (n.a.B.get r s) r = n.a.B.get r s ∧ n.a.B.get (n.a.B.get r s) s = n.a.B.get r s := by
  have self : ∀ x, 0 ≤ x → x < n.a.size → n.a.B.get x x = x := fun x a b => by rcases g.law.sel x x a b a b with e | e <;> exact e
  rcases g.law.sel r s h0 h1 h2 h3 with e | e
  · rw [e]; exact ⟨self r h0 h1, e⟩
  · rw [e]; exact ⟨by rw [g.law.comm s r h2 h3 h0 h1, e], self s h2 h3⟩

theorem Net.Least.one (g : n.Good) {S : List Int → Prop} {r s : Int} (h : n.Least S r) (k : n.Least S s) : r = s := by
  have lo := g.law.good.lo
  have key : ∀ {r s : Int}, n.Least S r → n.Least S s → n.a.B.get r s = r := fun {r s} h k => by
    rcases k.is with e | ⟨p, hp, hw⟩
    · rw [e, g.law.comm _ _ h.lo h.hi (by omega) (by omega)]
      exact g.law.last r h.lo h.hi
    · exact h.all p s hp hw
  exact g.law.le_anti h.lo h.hi k.lo k.hi (key h k) (key k h)
theorem Net.Least.congr {S T : List Int → Prop} {r : Int} (h : n.Least S r) (e : ∀ p w, n.weigh p = some w → (S p ↔ T p)) : n.Least T r :=
  ⟨h.lo, h.hi, h.is.elim Or.inl (fun ⟨p, hp, hw⟩ => Or.inr ⟨p, (e p r hw).1 hp, hw⟩), fun p w hp hw => h.all p w ((e p w hw).2 hp) hw⟩
theorem Net.Least.none (g : n.Good) {S : List Int → Prop} (h : ∀ p w, S p → n.weigh p = some w → False) : n.Least S (n.a.size - 1) := by
  have lo := g.law.good.lo
  exact ⟨by omega, by omega, Or.inl rfl, fun p w hp hw => (h p w hp hw).elim⟩
theorem Net.Least.join (g : n.Good) {S T : List Int → Prop} {r s : Int} (h : n.Least S r) (k : n.Least T s) : n.Least (fun p => S p ∨ T p) (n.a.B.get r s) := by
  obtain ⟨b0, b1⟩ := n.best_in g h.lo h.hi k.lo k.hi
  obtain ⟨l1, l2⟩ := n.best_le g h.lo h.hi k.lo k.hi
  refine ⟨b0, b1, ?_, fun p w hp hw => ?_⟩
  · rcases g.law.sel r s h.lo h.hi k.lo k.hi with e | e
    · rw [e]
      rcases h.is with e | ⟨p, hp, hw⟩
      · exact Or.inl e
      · exact Or.inr ⟨p, Or.inl hp, hw⟩
    · rw [e]
      rcases k.is with e | ⟨p, hp, hw⟩
      · exact Or.inl e
      · exact Or.inr ⟨p, Or.inr hp, hw⟩
  · obtain ⟨w0, w1⟩ := n.weigh_in g hw
    rcases hp with hp | hp
    · exact g.law.le_trans b0 b1 h.lo h.hi w0 w1 l1 (h.all p w hp hw)
    · exact g.law.le_trans b0 b1 k.lo k.hi w0 w1 l2 (k.all p w hp hw)
theorem Net.Least.single (g : n.Good) {S : List Int → Prop} {p : List Int} {w : Int} (hw : n.weigh p = some w) (hS : ∀ q, S q ↔ q = p) : n.Least S w := by
  obtain ⟨w0, w1⟩ := n.weigh_in g hw
  refine ⟨w0, w1, Or.inr ⟨p, (hS p).2 rfl, hw⟩, fun q v hq hv => ?_⟩
  rw [(hS q).1 hq, hw] at hv
  cases hv
  rcases g.law.sel w w w0 w1 w0 w1 with e | e <;> exact e

/-- Paths from a node whose rest is given. -/
def Back (a : Int) (q p : List Int) : Prop := p.Nodup ∧ p.head? = some a ∧ ∃ pre, p = pre ++ q
/-- Those whose last link ahead of the rest is one of the first so many. -/
def Net.BackTo (n : Net) (a : Int) (q : List Int) (at_ : Int) (k : Nat) (p : List Int) : Prop := p.Nodup ∧ p.head? = some a ∧ ∃ pre l, l < k ∧ n.T l = at_ ∧ p = pre ++ n.F l :: q

theorem Net.back_there (g : n.Good) {a : Int} {rest : List Int} {w : Int} (hn : (a :: rest).Nodup) (hw : n.weigh (a :: rest) = some w) : n.Least (Back a (a :: rest)) w := by
  refine Net.Least.single g hw (fun q => ⟨fun ⟨h1, h2, pre, e⟩ => ?_, fun e => by rw [e]; exact ⟨hn, rfl, [], rfl⟩⟩)
  subst e
  cases pre with
  | nil => rfl
  | cons c pre =>
    simp only [List.cons_append, List.head?_cons, Option.some.injEq] at h2
    subst h2
    simp at h1
theorem Net.backTo_zero (g : n.Good) (a : Int) (q : List Int) (at_ : Int) : n.Least (n.BackTo a q at_ 0) (n.a.size - 1) :=
  Net.Least.none g (fun _ _ ⟨_, _, _, l, hl, _⟩ _ => absurd hl (Nat.not_lt_zero l))
theorem Net.backTo_not {a at_ : Int} {rest : List Int} {k : Nat} {r : Int} (h : n.Least (n.BackTo a (at_ :: rest) at_ k) r) (hk : n.T k ≠ at_ ∨ n.F k ∈ at_ :: rest) : n.Least (n.BackTo a (at_ :: rest) at_ (k + 1)) r := by
  refine h.congr (fun p w hw => ⟨fun ⟨h1, h2, pre, l, hl, h3, h4⟩ => ⟨h1, h2, pre, l, by omega, h3, h4⟩, fun ⟨h1, h2, pre, l, hl, h3, h4⟩ => ⟨h1, h2, pre, l, ?_, h3, h4⟩⟩)
  by_cases e : l = k
  · exfalso
    subst e
    rcases hk with hk | hk
    · exact hk h3
    · subst h4
      rw [List.nodup_append] at h1
      exact (List.nodup_cons.1 h1.2.1).1 hk
  · omega
theorem Net.backTo_one (g : n.Good) {a at_ : Int} {rest : List Int} {k : Nat} {r s : Int} (h : n.Least (n.BackTo a (at_ :: rest) at_ k) r) (hk : n.T k = at_) (hs : n.Least (Back a (n.F k :: at_ :: rest)) s) : n.Least (n.BackTo a (at_ :: rest) at_ (k + 1)) (n.a.B.get r s) := by
  refine (h.join g hs).congr (fun p w hw => ⟨?_, ?_⟩)
  · rintro (⟨h1, h2, pre, l, hl, h3, h4⟩ | ⟨h1, h2, pre, h4⟩)
    · exact ⟨h1, h2, pre, l, by omega, h3, h4⟩
    · exact ⟨h1, h2, pre, k, by omega, hk, h4⟩
  · rintro ⟨h1, h2, pre, l, hl, h3, h4⟩
    by_cases e : l = k
    · subst e; exact Or.inr ⟨h1, h2, pre, h4⟩
    · exact Or.inl ⟨h1, h2, pre, l, by omega, h3, h4⟩
theorem Net.back_end {a at_ : Int} {rest : List Int} {r : Int} (h : n.Least (n.BackTo a (at_ :: rest) at_ n.ln) r) (hne : at_ ≠ a) : n.Least (Back a (at_ :: rest)) r := by
  refine h.congr (fun p w hw => ⟨fun ⟨h1, h2, pre, l, _, _, h4⟩ => ⟨h1, h2, pre ++ [n.F l], by rw [h4]; simp⟩, fun ⟨h1, h2, pre, h4⟩ => ?_⟩)
  rcases List.eq_nil_or_concat pre with e | ⟨pre', b, e⟩
  · subst e h4
    simp only [List.nil_append, List.head?_cons, Option.some.injEq] at h2
    exact absurd h2 hne
  · subst e h4
    rw [List.concat_eq_append, List.append_assoc] at *
    obtain ⟨l, hl, e1, e2, _⟩ := n.link_edge (n.weigh_mid hw)
    exact ⟨h1, h2, pre', l, hl, e2, by rw [e1]; rfl⟩

/-- Paths to a node that begin so. -/
def Forth (b : Int) (q p : List Int) : Prop := p.Nodup ∧ p.getLast? = some b ∧ ∃ suf, p = q ++ suf
/-- Those that go on to one of the first so many nodes. -/
def ForthTo (b : Int) (q : List Int) (k : Nat) (p : List Int) : Prop := p.Nodup ∧ p.getLast? = some b ∧ ∃ (c : Nat) (suf : List Int), c < k ∧ p = q ++ (c : Int) :: suf

theorem Net.forth_there (g : n.Good) {b : Int} {q : List Int} {w : Int} (hn : (q ++ [b]).Nodup) (hw : n.weigh (q ++ [b]) = some w) : n.Least (Forth b (q ++ [b])) w := by
  refine Net.Least.single g hw (fun p => ⟨fun ⟨h1, h2, suf, e⟩ => ?_, fun e => by rw [e]; exact ⟨hn, by simp, [], by simp⟩⟩)
  subst e
  rcases List.eq_nil_or_concat suf with e | ⟨suf', c, e⟩
  · rw [e, List.append_nil]
  · exfalso
    subst e
    rw [List.concat_eq_append, ← List.append_assoc, List.getLast?_append] at h2
    simp at h2
    subst h2
    rw [List.nodup_append] at h1
    exact h1.2.2 c (by simp) c (by simp) rfl
theorem Net.forthTo_zero (g : n.Good) (b : Int) (q : List Int) : n.Least (ForthTo b q 0) (n.a.size - 1) :=
  Net.Least.none g (fun _ _ ⟨_, _, c, _, hc, _⟩ _ => absurd hc (Nat.not_lt_zero c))
theorem Net.forthTo_not {b at_ : Int} {q : List Int} {k : Nat} {r : Int} (h : n.Least (ForthTo b (q ++ [at_]) k) r) (hk : ¬ 0 ≤ n.edge at_ k ∨ (k : Int) ∈ q ++ [at_]) : n.Least (ForthTo b (q ++ [at_]) (k + 1)) r := by
  refine h.congr (fun p w hw => ⟨fun ⟨h1, h2, c, suf, hc, h4⟩ => ⟨h1, h2, c, suf, by omega, h4⟩, fun ⟨h1, h2, c, suf, hc, h4⟩ => ⟨h1, h2, c, suf, ?_, h4⟩⟩)
  by_cases e : c = k
  · exfalso
    subst e
    rcases hk with hk | hk
    · subst h4
      rw [List.append_assoc] at hw
      exact hk (n.weigh_mid (pre := q) hw)
    · subst h4
      rw [List.nodup_append] at h1
      exact h1.2.2 _ hk _ (by simp) rfl
  · omega
theorem Net.forthTo_one (g : n.Good) {b : Int} {q : List Int} {k : Nat} {r s : Int} (h : n.Least (ForthTo b q k) r) (hs : n.Least (Forth b (q ++ [(k : Int)])) s) : n.Least (ForthTo b q (k + 1)) (n.a.B.get r s) := by
  refine (h.join g hs).congr (fun p w hw => ⟨?_, ?_⟩)
  · rintro (⟨h1, h2, c, suf, hc, h4⟩ | ⟨h1, h2, suf, h4⟩)
    · exact ⟨h1, h2, c, suf, by omega, h4⟩
    · exact ⟨h1, h2, k, suf, by omega, by rw [h4]; simp⟩
  · rintro ⟨h1, h2, c, suf, hc, h4⟩
    by_cases e : c = k
    · subst e; exact Or.inr ⟨h1, h2, suf, by rw [h4]; simp⟩
    · exact Or.inl ⟨h1, h2, c, suf, by omega, h4⟩
theorem Net.edge_ends (g : n.Good) {i k : Int} (h : 0 ≤ n.edge i k) : (0 ≤ i ∧ i < n.nodes) ∧ (0 ≤ k ∧ k < n.nodes) := by
  obtain ⟨l, hl, e1, e2, _⟩ := Net.link_edge h
  have := g.link l hl
  omega
theorem Net.forth_end (g : n.Good) {b at_ : Int} {q : List Int} {r : Int} (h : n.Least (ForthTo b (q ++ [at_]) n.N) r) (hne : at_ ≠ b) : n.Least (Forth b (q ++ [at_])) r := by
  refine h.congr (fun p w hw => ⟨fun ⟨h1, h2, c, suf, _, h4⟩ => ⟨h1, h2, _, h4⟩, fun ⟨h1, h2, suf, h4⟩ => ?_⟩)
  cases suf with
  | nil =>
    subst h4
    simp at h2
    exact absurd h2 hne
  | cons c suf =>
    subst h4
    have hw' := hw
    rw [List.append_assoc] at hw'
    have hc := (n.edge_ends g (n.weigh_mid (pre := q) hw')).2
    refine ⟨h1, h2, c.toNat, suf, by unfold Net.N; omega, ?_⟩
    rw [show ((c.toNat : Nat) : Int) = c by omega]

/-- Both ways come to the same. -/
theorem Net.back_forth (g : n.Good) {a b : Int} {r s : Int} (h : n.Least (Back a [b]) r) (k : n.Least (Forth b [a]) s) : r = s := by
  refine h.one g (k.congr (fun p w hw => ⟨fun ⟨h1, h2, suf, h3⟩ => ?_, fun ⟨h1, h2, pre, h3⟩ => ?_⟩))
  · refine ⟨h1, by rw [h3]; rfl, ?_⟩
    rcases List.eq_nil_or_concat p with e | ⟨p', c, e⟩
    · rw [e] at h3; simp at h3
    · rw [e, List.concat_eq_append] at h2 ⊢
      simp at h2
      exact ⟨p', by rw [h2]⟩
  · refine ⟨h1, by rw [h3]; simp, ?_⟩
    cases p with
    | nil => simp at h2
    | cons c p' =>
      simp only [List.head?_cons, Option.some.injEq] at h2
      exact ⟨p', by rw [h2]; rfl⟩
end

end Go.Proofs.Ytjhkadffaephmab

/-
  Tables: plain mathematics. Which node comes next, walks, and that they lead.
-/
namespace Go.Proofs.Ytjhkadffaephmab

/-- Which node a table has. -/
def Net.next (n : Net) (x : Nat → Nat → Int) (i j : Nat) : Int :=
  if i = j ∨ n.round x i j = n.a.size - 1 then -1
  else (((List.range n.N).find? fun (k : Nat) => decide (0 ≤ n.edge i k) && (n.a.E.get (n.edge i k) (x k j) == n.round x i j)).map fun (k : Nat) => (k : Int)).getD (-1)

/-- A walk: what was met, and where it is. -/
def walkOf (t : Int → Int) (fin : Int) : Nat → List Int → Int → List Int × Bool
  | 0, out, _ => (out, false)
  | f + 1, out, c => if c < 0 ∨ c ∈ out then (out, false) else if c = fin then (out ++ [c], true) else walkOf t fin f (out ++ [c]) (t c)

/-- So many nodes at most are met. -/
theorem nodup_len : ∀ (N : Nat) (l : List Int), l.Nodup → (∀ c ∈ l, 0 ≤ c ∧ c < (N : Int)) → l.length ≤ N
  | 0, l, _, h => by
    cases l with
    | nil => exact Nat.le_refl _
    | cons c l => have := h c (by simp); omega
  | N + 1, l, hn, h => by
    have hl := nodup_len N (l.erase (N : Int)) (hn.erase _) (fun c hc => by
      have h1 := h c (List.mem_of_mem_erase hc)
      have h2 : c ≠ (N : Int) := fun e => by
        subst e
        exact (hn.mem_erase_iff.1 hc).1 rfl
      omega)
    have := List.length_erase_of_mem (a := (N : Int)) (l := l)
    by_cases hm : (N : Int) ∈ l
    · rw [List.length_erase_of_mem hm] at hl; omega
    · rw [List.erase_of_not_mem hm] at hl; omega

section
variable {n : Net}

/-- What a round is of, where it is no trivial one. -/
theorem Net.round_from (g : n.Good) {x : Nat → Nat → Int} (hx : n.State x) {i j : Nat} (hj : j < n.N) (hne : i ≠ j) (hv : n.round x i j ≠ n.a.size - 1) : ∃ k, k < n.N ∧ 0 ≤ n.edge i k ∧ n.round x i j = n.a.E.get (n.edge i k) (x k j) := by
  obtain ⟨_, s, _, _⟩ := n.out_spec g (f := fun k => x k j) (fun k hk => hx k j hk hj) i j n.N (Nat.le_refl _)
  rcases s with s | ⟨k, hk, s1, s2⟩
  · exfalso
    apply hv
    show n.out i j _ n.N = _
    rw [s, Net.out, if_neg hne]
  · exact ⟨k, hk, s1, s2⟩
theorem Net.next_none {x : Nat → Nat → Int} {i j : Nat} (h : i = j ∨ n.round x i j = n.a.size - 1) : n.next x i j = -1 := by
  unfold Net.next; rw [if_pos h]
theorem Net.next_some (g : n.Good) {x : Nat → Nat → Int} (hx : n.State x) {i j : Nat} (hj : j < n.N) (hne : i ≠ j) (hv : n.round x i j ≠ n.a.size - 1) :
    ∃ k : Nat, n.next x i j = k ∧ k < n.N ∧ 0 ≤ n.edge i k ∧ n.a.E.get (n.edge i k) (x k j) = n.round x i j ∧ ∀ q : Nat, q < k → 0 ≤ n.edge i q → n.a.E.get (n.edge i q) (x q j) ≠ n.round x i j := by
  unfold Net.next
  rw [if_neg (fun h => h.elim hne hv)]
  cases hf : (List.range n.N).find? fun (k : Nat) => decide (0 ≤ n.edge i k) && (n.a.E.get (n.edge i k) (x k j) == n.round x i j) with
  | none =>
    exfalso
    obtain ⟨k, hk, h1, h2⟩ := n.round_from g hx hj hne hv
    have := List.find?_eq_none.1 hf k (by simpa using hk)
    simp [h1, h2] at this
  | some k =>
    rw [List.find?_range_eq_some] at hf
    obtain ⟨h1, h2, h3⟩ := hf
    simp only [Bool.and_eq_true, decide_eq_true_eq, beq_iff_eq, List.mem_range] at h1 h2
    refine ⟨k, rfl, h2, h1.1, h1.2, fun q hq he e => ?_⟩
    have := h3 q hq
    simp [he, e] at this
theorem Net.next_one {x : Nat → Nat → Int} {i j k : Nat} (hne : i ≠ j) (hv : n.round x i j ≠ n.a.size - 1) (hk : k < n.N) (he : 0 ≤ n.edge i k) (hr : n.a.E.get (n.edge i k) (x k j) = n.round x i j) (hl : ∀ q : Nat, q < k → 0 ≤ n.edge i q → n.a.E.get (n.edge i q) (x q j) ≠ n.round x i j) : n.next x i j = k := by
  unfold Net.next
  rw [if_neg (fun h => h.elim hne hv)]
  have : (List.range n.N).find? (fun (k : Nat) => decide (0 ≤ n.edge i k) && (n.a.E.get (n.edge i k) (x k j) == n.round x i j)) = some k := by
    rw [List.find?_range_eq_some]
    refine ⟨by simp [he, hr], by simpa using hk, fun q hq => ?_⟩
    simp only [Bool.not_eq_true', Bool.and_eq_false_iff, decide_eq_false_iff_not, beq_eq_false_iff_ne]
    by_cases h : 0 ≤ n.edge i q
    · exact Or.inr (hl q hq h)
    · exact Or.inl h
  rw [this]
  rfl
theorem Net.next_in (g : n.Good) {x : Nat → Nat → Int} (hx : n.State x) {i j : Nat} (hj : j < n.N) : n.next x i j = -1 ∨ (0 ≤ n.next x i j ∧ n.next x i j < n.nodes) := by
  by_cases h : i = j ∨ n.round x i j = n.a.size - 1
  · exact Or.inl (n.next_none h)
  · obtain ⟨k, e, hk, _⟩ := n.next_some g hx hj (fun e => h (Or.inl e)) (fun e => h (Or.inr e))
    right
    rw [e]
    unfold Net.N at hk
    omega

/-- A walk in a settled state of a strict algebra: it comes there, along links, by what it weighs. -/
theorem Net.walk_leads (g : n.Good) (hs : n.a.Strict) {x : Nat → Nat → Int} (hx : n.State x) (hfix : ∀ i j, i < n.N → j < n.N → n.round x i j = x i j) {fin : Nat} (hto : fin < n.N) :
    ∀ (f : Nat) (out : List Int) (c : Nat), c < n.N → out.Nodup → (∀ d ∈ out, 0 ≤ d ∧ d < (n.N : Int)) → n.N + 1 ≤ f + out.length → x c fin ≠ n.a.size - 1 → (∀ d : Nat, (d : Int) ∈ out → n.a.rank (x c fin) < n.a.rank (x d fin)) →
      ∃ l : List Int, walkOf (fun d => n.next x d.toNat fin) fin f out c = (out ++ l, true) ∧ (out ++ l).Nodup ∧ l.head? = some (c : Int) ∧ l.getLast? = some (fin : Int) ∧ n.weigh l = some (x c fin) := by
  have lo := g.law.good.lo
  intro f
  induction f with
  | zero =>
    intro out c _ hn hd hl _ _
    have := nodup_len n.N out hn hd
    omega
  | succ f ih =>
    intro out c hc hn hd hl hv hr
    have hnm : (c : Int) ∉ out := fun hm => Nat.lt_irrefl _ (hr c hm)
    have hn' : (out ++ [(c : Int)]).Nodup := by
      rw [List.nodup_append]
      refine ⟨hn, by simp, fun a ha b hb e => ?_⟩
      rw [List.mem_singleton] at hb
      subst e hb
      exact hnm ha
    rw [walkOf, if_neg (fun h => h.elim (fun h => by omega) hnm)]
    by_cases e : (c : Int) = fin
    · rw [if_pos e]
      have e' : c = fin := by omega
      subst e'
      refine ⟨[(c : Int)], rfl, hn', rfl, rfl, ?_⟩
      rw [n.weigh_one]
      have := hfix c c hc hc
      obtain ⟨_, _, t, _⟩ := n.out_spec g (f := fun k => x k c) (fun k hk => hx k c hk hc) c c n.N (Nat.le_refl _)
      have h0 : n.out c c (fun k => x k c) 0 = 0 := by rw [Net.out, if_pos rfl]
      have hz := g.law.zero (x c c) (hx c c hc hc).1 (hx c c hc hc).2
      have e1 : n.out c c (fun k => x k c) n.N = x c c := this
      rw [h0, e1, g.law.comm _ _ (hx c c hc hc).1 (hx c c hc hc).2 (by omega) (by omega), hz] at t
      rw [← t]
    · rw [if_neg e]
      have hne : c ≠ fin := fun h => e (by rw [h])
      have hx1 := hfix c fin hc hto
      obtain ⟨k, e1, hk, e2, e3, _⟩ := n.next_some g hx hto hne (by rw [hx1]; exact hv)
      rw [hx1] at e3
      have hk0 := hx k fin hk hto
      have hkv : x k fin ≠ n.a.size - 1 := fun h => by
        rw [h, g.law.elast _ e2 (n.edge_lt g c k)] at e3
        exact hv e3.symm
      have hlt : n.a.rank (x k fin) < n.a.rank (x c fin) := by
        refine g.law.rank_lt hk0.1 hk0.2 (hx c fin hc hto).1 (hx c fin hc hto).2 ?_
        rw [← e3]
        exact ⟨g.law.incr _ _ e2 (n.edge_lt g c k) hk0.1 hk0.2, Ne.symm (hs _ _ e2 (n.edge_lt g c k) hk0.1 (by omega))⟩
      rw [Int.toNat_natCast, e1]
      obtain ⟨l, i1, i2, i3, i4, i5⟩ := ih (out ++ [(c : Int)]) k hk hn' (fun d hd' => by
        rcases List.mem_append.1 hd' with h | h
        · exact hd d h
        · rw [List.mem_singleton] at h; omega) (by simp; omega) hkv (fun d hd' => by
        rcases List.mem_append.1 hd' with h | h
        · exact Nat.lt_trans hlt (hr d h)
        · rw [List.mem_singleton] at h
          have : d = c := by omega
          subst this; exact hlt)
      refine ⟨(c : Int) :: l, by rw [i1, List.append_assoc]; rfl, by rw [List.append_assoc] at i2; exact i2, rfl, ?_, ?_⟩
      · cases l with
        | nil => cases i3
        | cons d l => rw [List.getLast?_cons_cons]; exact i4
      · cases l with
        | nil => cases i3
        | cons d l =>
          simp only [List.head?_cons, Option.some.injEq] at i3
          subst i3
          rw [n.weigh_two, if_pos e2, i5]
          simp [e3]

/-- What an edge makes of the better one is the better one. -/
def Alg.Distr (a : Alg) : Prop := ∀ e x y : Int, 0 ≤ e → e < a.E.len → 0 ≤ x → x < a.size → 0 ≤ y → y < a.size → a.E.get e (a.B.get x y) = a.B.get (a.E.get e x) (a.E.get e y)

/-- No path is better than what a settled state has. -/
theorem Net.fix_best (g : n.Good) (hd : n.a.Distr) {x : Nat → Nat → Int} (hx : n.State x) (hfix : ∀ i j, i < n.N → j < n.N → n.round x i j = x i j) {fin : Nat} (hto : fin < n.N) :
    ∀ (p : List Int) (c : Nat) (w : Int), c < n.N → p.head? = some (c : Int) → p.getLast? = some (fin : Int) → n.weigh p = some w → n.a.B.get (x c fin) w = x c fin
  | [], c, w, _, h, _, _ => by cases h
  | [a], c, w, hc, h1, h2, h3 => by
    simp only [List.head?_cons, Option.some.injEq, List.getLast?_singleton] at h1 h2
    have e' : c = fin := by omega
    subst e'
    rw [n.weigh_one] at h3
    cases h3
    obtain ⟨_, _, t, _⟩ := n.out_spec g (f := fun k => x k c) (fun k hk => hx k c hk hc) c c n.N (Nat.le_refl _)
    have h0 : n.out c c (fun k => x k c) 0 = 0 := by rw [Net.out, if_pos rfl]
    have e1 : n.out c c (fun k => x k c) n.N = x c c := hfix c c hc hc
    rw [h0, e1] at t
    exact t
  | a :: b :: l, c, w, hc, h1, h2, h3 => by
    simp only [List.head?_cons, Option.some.injEq] at h1
    subst h1
    obtain ⟨b', t', v, e, he, hv, rfl⟩ := Net.weigh_tail (l := b :: l) h3 (by simp)
    cases e
    have hb := (n.edge_ends g he).2
    obtain ⟨k, hk⟩ : ∃ k : Nat, b = k := ⟨b.toNat, by omega⟩
    subst hk
    have hkN : k < n.N := by unfold Net.N; omega
    have ih := Net.fix_best g hd hx hfix hto (k :: l) k v hkN rfl (by rw [List.getLast?_cons_cons] at h2; exact h2) hv
    obtain ⟨v0, v1⟩ := n.weigh_in g hv
    have hk0 := hx k fin hkN hto
    have hc0 := hx c fin hc hto
    have hm := hd (n.edge c k) (x k fin) v he (n.edge_lt g c k) hk0.1 hk0.2 v0 v1
    rw [ih] at hm
    obtain ⟨_, _, _, u⟩ := n.out_spec g (f := fun k => x k fin) (fun k hk => hx k fin hk hto) c fin n.N (Nat.le_refl _)
    have e1 : n.out c fin (fun k => x k fin) n.N = x c fin := hfix c fin hc hto
    have u1 := u k hkN he
    rw [e1] at u1
    have c0 := g.law.good.edge he (n.edge_lt g c k) hk0.1 hk0.2
    have c1 := g.law.good.edge he (n.edge_lt g c k) v0 v1
    exact g.law.le_trans hc0.1 hc0.2 c0.1 c0.2 c1.1 c1.2 u1 hm.symm

/-- What a settled state has is the best of all paths. -/
theorem Net.fix_least (g : n.Good) (hs : n.a.Strict) (hd : n.a.Distr) {x : Nat → Nat → Int} (hx : n.State x) (hfix : ∀ i j, i < n.N → j < n.N → n.round x i j = x i j) {c fin : Nat} (hc : c < n.N) (hto : fin < n.N) : n.Least (Back c [(fin : Int)]) (x c fin) := by
  refine ⟨(hx c fin hc hto).1, (hx c fin hc hto).2, ?_, fun p w ⟨_, h2, pre, h3⟩ hw => n.fix_best g hd hx hfix hto p c w hc h2 (by rw [h3]; simp) hw⟩
  by_cases hv : x c fin = n.a.size - 1
  · exact Or.inl hv
  · right
    obtain ⟨l, _, i2, i3, i4, i5⟩ := n.walk_leads g hs hx hfix hto (n.N + 1) [] c hc (by simp) (by simp) (by simp) hv (by simp)
    refine ⟨l, ⟨by simpa using i2, i3, ?_⟩, i5⟩
    rcases List.eq_nil_or_concat l with e | ⟨l', d, e⟩
    · rw [e] at i3; cases i3
    · rw [e, List.concat_eq_append] at i4 ⊢
      simp at i4
      exact ⟨l', by rw [i4]⟩
end

end Go.Proofs.Ytjhkadffaephmab
