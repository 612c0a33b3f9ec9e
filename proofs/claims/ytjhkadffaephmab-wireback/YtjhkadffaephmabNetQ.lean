/-
  Nets: plain mathematics. Looking at all links, in whatever order, comes to what looking at all nodes does.
-/
import Derived.Test.YtjhkadffaephmabNetP
namespace Go.Proofs.Ytjhkadffaephmab

/-- The route of i to j, when so many links were looked at. -/
def Net.look (n : Net) (i j : Nat) (has : Nat → Int) : Nat → Int
  | 0 => if i = j then 0 else n.a.size - 1
  | l + 1 => if n.F l = i then n.a.B.get (n.look i j has l) (n.a.E.get (n.E l) (has (n.T l).toNat)) else n.look i j has l

section
variable {n : Net}

theorem Net.once (h : n.check = 0) {l k : Nat} (hl : l < n.ln) (hk : k < l) : ¬ (n.F k = n.F l ∧ n.T k = n.T l) := by
  unfold Net.check at h
  by_cases h1 : n.a.check = 0
  · rw [if_neg (by simp [h1])] at h
    by_cases h2 : (n.a.tell [1, 2, 3, 4, 5, 6, 7]).law = 0
    · rw [if_neg (by simp [h2])] at h
      by_cases h3 : n.nodes < 1 ∨ 6 < n.nodes
      · rw [if_pos h3] at h; cases h
      · rw [if_neg h3] at h
        have := firstErr_zero.1 h l hl
        unfold Net.linkErr at this
        split at this
        · cases this
        · split at this
          · cases this
          · split at this
            · cases this
            · next ht =>
              intro ⟨e1, e2⟩
              apply ht
              unfold Net.twice
              rw [List.any_eq_true]
              exact ⟨k, by simpa using hk, by simp [e1, e2]⟩
    · rw [if_pos h2] at h; cases h
  · rw [if_pos h1] at h; exact absurd h h1

theorem Net.edge_link (h : n.check = 0) {l : Nat} (hl : l < n.ln) : n.edge (n.F l) (n.T l) = n.E l := by
  unfold Net.edge
  have : (List.range n.ln).find? (fun k => n.F k == n.F l && n.T k == n.T l) = some l := by
    rw [List.find?_range_eq_some]
    refine ⟨by simp, by simpa using hl, fun j hj => ?_⟩
    have := n.once h hl hj
    simp only [Bool.not_eq_true', Bool.and_eq_false_iff, beq_eq_false_iff_ne]
    exact Classical.byContradiction fun hc => this ⟨Classical.byContradiction fun e => hc (Or.inl e), Classical.byContradiction fun e => hc (Or.inr e)⟩
  rw [this]
  rfl

theorem Net.link_edge {i k : Int} (he : 0 ≤ n.edge i k) : ∃ l, l < n.ln ∧ n.F l = i ∧ n.T l = k ∧ n.E l = n.edge i k := by
  unfold Net.edge at he ⊢
  cases hf : (List.range n.ln).find? (fun l => n.F l == i && n.T l == k) with
  | none => rw [hf] at he; simp at he
  | some l =>
    have h1 := List.mem_of_find?_eq_some hf
    have h2 := List.find?_some hf
    simp at h1 h2
    exact ⟨l, h1, h2.1, h2.2, rfl⟩

theorem Net.look_spec (g : n.Good) {f : Nat → Int} (hf : n.Routes f) (i j : Nat) : ∀ m, m ≤ n.ln →
    (0 ≤ n.look i j f m ∧ n.look i j f m < n.a.size) ∧
    (n.look i j f m = n.look i j f 0 ∨ ∃ l, l < m ∧ n.F l = i ∧ n.look i j f m = n.a.E.get (n.E l) (f (n.T l).toNat)) ∧
    n.a.B.get (n.look i j f m) (n.look i j f 0) = n.look i j f m ∧
    ∀ l, l < m → n.F l = i → n.a.B.get (n.look i j f m) (n.a.E.get (n.E l) (f (n.T l).toNat)) = n.look i j f m := by
  have lo := g.law.good.lo
  intro m
  induction m with
  | zero =>
    intro _
    have h0 : 0 ≤ n.look i j f 0 ∧ n.look i j f 0 < n.a.size := by
      unfold Net.look
      split <;> omega
    refine ⟨h0, Or.inl rfl, ?_, fun k hk => absurd hk (Nat.not_lt_zero _)⟩
    rcases g.law.sel _ _ h0.1 h0.2 h0.1 h0.2 with e | e <;> exact e
  | succ m ih =>
    intro hm
    obtain ⟨r, s, t, u⟩ := ih (by omega)
    have h0 : 0 ≤ n.look i j f 0 ∧ n.look i j f 0 < n.a.size := by
      simp only [Net.look]
      split <;> omega
    have cnd : ∀ l, l < n.ln → 0 ≤ n.a.E.get (n.E l) (f (n.T l).toNat) ∧ n.a.E.get (n.E l) (f (n.T l).toNat) < n.a.size := fun l hl => by
      have := g.link l hl
      have ht : (n.T l).toNat < n.N := by unfold Net.N; omega
      exact g.law.good.edge this.2.2.2.2.1 this.2.2.2.2.2 (hf _ ht).1 (hf _ ht).2
    by_cases he : n.F m = i
    · have e : n.look i j f (m + 1) = n.a.B.get (n.look i j f m) (n.a.E.get (n.E m) (f (n.T m).toNat)) := by
        rw [Net.look, if_pos he]
      obtain ⟨c0, c1⟩ := cnd m (by omega)
      generalize hc : n.a.E.get (n.E m) (f (n.T m).toNat) = c at *
      generalize n.look i j f m = o at *
      rw [e]
      rcases g.law.sel o c r.1 r.2 c0 c1 with e1 | e1
      · rw [e1]
        refine ⟨r, ?_, t, fun k hk hek => ?_⟩
        · rcases s with s | ⟨k, hk, s1, s2⟩
          · exact Or.inl s
          · exact Or.inr ⟨k, by omega, s1, s2⟩
        · by_cases ek : k = m
          · subst ek; rw [hc]; exact e1
          · exact u k (by omega) hek
      · rw [e1]
        have hco : n.a.B.get c o = c := by rw [g.law.comm c o c0 c1 r.1 r.2, e1]
        refine ⟨⟨c0, c1⟩, Or.inr ⟨m, by omega, he, hc.symm⟩, g.law.le_trans c0 c1 r.1 r.2 h0.1 h0.2 hco t, fun k hk hek => ?_⟩
        by_cases ek : k = m
        · subst ek
          rw [hc]
          rcases g.law.sel c c c0 c1 c0 c1 with e2 | e2 <;> exact e2
        · obtain ⟨d0, d1⟩ := cnd k (by omega)
          exact g.law.le_trans c0 c1 r.1 r.2 d0 d1 hco (u k (by omega) hek)
    · have e : n.look i j f (m + 1) = n.look i j f m := by rw [Net.look, if_neg he]
      rw [e]
      refine ⟨r, ?_, t, fun k hk hek => ?_⟩
      · rcases s with s | ⟨k, hk, s1, s2⟩
        · exact Or.inl s
        · exact Or.inr ⟨k, by omega, s1, s2⟩
      · by_cases ek : k = m
        · subst ek; exact absurd hek he
        · exact u k (by omega) hek

/-- The order is nothing. -/
theorem Net.look_route (h : n.check = 0) {f : Nat → Int} (hf : n.Routes f) (i j : Nat) : n.look i j f n.ln = n.route i j f := by
  have g := Net.good_of_check h
  obtain ⟨r, s, t, u⟩ := n.look_spec g hf i j n.ln (Nat.le_refl _)
  obtain ⟨r', s', t', u'⟩ := n.out_spec g hf i j n.N (Nat.le_refl _)
  have e0 : n.look i j f 0 = n.out i j f 0 := rfl
  unfold Net.route
  refine g.law.le_anti r.1 r.2 r'.1 r'.2 ?_ ?_
  · rcases s' with s' | ⟨k, hk, s1, s2⟩
    · rw [s', ← e0]; exact t
    · obtain ⟨l, hl, e1, e2, e3⟩ := n.link_edge s1
      have := u l hl e1
      rw [e2, e3] at this
      rw [s2]
      simpa using this
  · rcases s with s | ⟨l, hl, s1, s2⟩
    · rw [s, e0]; exact t'
    · have gl := g.link l hl
      have ek : n.edge i ((n.T l).toNat : Nat) = n.E l := by
        rw [← s1, show (((n.T l).toNat : Nat) : Int) = n.T l by omega]
        exact n.edge_link h hl
      have := u' (n.T l).toNat (by unfold Net.N; omega) (by rw [ek]; exact gl.2.2.2.2.1)
      rw [ek] at this
      rw [s2]
      exact this
end

end Go.Proofs.Ytjhkadffaephmab
