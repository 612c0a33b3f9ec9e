/-
  Our own texts, bundled: a claim holds few files.
-/
import Derived.Test.YtjhkadffaephmabGreatCutEnginePlaysAC
import Derived.Test.YtjhkadffaephmabGreatCutEnginePlaysAB
import Derived.Laws.MakeOwn
import Derived.Laws.OwnMore
import Derived.Deep.RegionHeld3
/-
  Nets: plain mathematics. Looking at all links, in whatever order, comes to what looking at all nodes does.
-/
namespace Go.Proofs.YtjhkadffaephmabGreat

/-- The route of i to j, when so many links were looked at. -/
def Net.look (n : Net) (i j : Nat) (has : Nat → Int) : Nat → Int
  | 0 => if i = j then 0 else n.a.size - 1
  | l + 1 => if n.F l = i then n.a.B.get (n.look i j has l) (n.a.E.get (n.E l) (has (n.T l).toNat)) else n.look i j has l

section
variable {n : Net}

theorem Net.once (h : n.check = 0) {l k : Nat} (hl : l < n.ln) (hk : k < l) : ¬ (n.F k = n.F l ∧ n.T k = n.T l) := by
  unfold Net.check at h
  by_cases h1 : n.a.check = 0
  · rw [if_neg (by simp [h1])] at h
    by_cases h2 : (n.a.tell [1, 2, 3, 4, 5, 6, 7]).law = 0
    · rw [if_neg (by simp [h2])] at h
      by_cases h3 : n.nodes < 1 ∨ 6 < n.nodes
      · rw [if_pos h3] at h; cases h
      · rw [if_neg h3] at h
        have := firstErr_zero.1 h l hl
        unfold Net.linkErr at this
        split at this
        · cases this
        · split at this
          · cases this
          · split at this
            · cases this
            · next ht =>
              intro ⟨e1, e2⟩
              apply ht
              unfold Net.twice
              rw [List.any_eq_true]
              exact ⟨k, by simpa using hk, by simp [e1, e2]⟩
    · rw [if_pos h2] at h; cases h
  · rw [if_pos h1] at h; exact absurd h h1

theorem Net.edge_link (h : n.check = 0) {l : Nat} (hl : l < n.ln) : n.edge (n.F l) (n.T l) = n.E l := by
  unfold Net.edge
  have : (List.range n.ln).find? (fun k => n.F k == n.F l && n.T k == n.T l) = some l := by
    rw [List.find?_range_eq_some]
    refine ⟨by simp, by simpa using hl, fun j hj => ?_⟩
    have := n.once h hl hj
    simp only [Bool.not_eq_true', Bool.and_eq_false_iff, beq_eq_false_iff_ne]
    exact Classical.byContradiction fun hc => this ⟨Classical.byContradiction fun e => hc (Or.inl e), Classical.byContradiction fun e => hc (Or.inr e)⟩
  rw [this]
  rfl

theorem Net.link_edge {i k : Int} (he : 0 ≤ n.edge i k) : ∃ l, l < n.ln ∧ n.F l = i ∧ n.T l = k ∧ n.E l = n.edge i k := by
  unfold Net.edge at he ⊢
  cases hf : (List.range n.ln).find? (fun l => n.F l == i && n.T l == k) with
  | none => rw [hf] at he; simp at he
  | some l =>
    have h1 := List.mem_of_find?_eq_some hf
    have h2 := List.find?_some hf
    simp at h1 h2
    exact ⟨l, h1, h2.1, h2.2, rfl⟩

theorem Net.look_spec (g : n.Good) {f : Nat → Int} (hf : n.Routes f) (i j : Nat) : ∀ m, m ≤ n.ln →
    (0 ≤ n.look i j f m ∧ n.look i j f m < n.a.size) ∧
    (n.look i j f m = n.look i j f 0 ∨ ∃ l, l < m ∧ n.F l = i ∧ n.look i j f m = n.a.E.get (n.E l) (f (n.T l).toNat)) ∧
    n.a.B.get (n.look i j f m) (n.look i j f 0) = n.look i j f m ∧
    ∀ l, l < m → n.F l = i → n.a.B.get (n.look i j f m) (n.a.E.get (n.E l) (f (n.T l).toNat)) = n.look i j f m := by
  have lo := g.law.good.lo
  intro m
  induction m with
  | zero =>
    intro _
    have h0 : 0 ≤ n.look i j f 0 ∧ n.look i j f 0 < n.a.size := by
      unfold Net.look
      split <;> omega
    refine ⟨h0, Or.inl rfl, ?_, fun k hk => absurd hk (Nat.not_lt_zero _)⟩
    rcases g.law.sel _ _ h0.1 h0.2 h0.1 h0.2 with e | e <;> exact e
  | succ m ih =>
    intro hm
    obtain ⟨r, s, t, u⟩ := ih (by omega)
    have h0 : 0 ≤ n.look i j f 0 ∧ n.look i j f 0 < n.a.size := by
      simp only [Net.look]
      split <;> omega
    have cnd : ∀ l, l < n.ln → 0 ≤ n.a.E.get (n.E l) (f (n.T l).toNat) ∧ n.a.E.get (n.E l) (f (n.T l).toNat) < n.a.size := fun l hl => by
      have := g.link l hl
      have ht : (n.T l).toNat < n.N := by unfold Net.N; omega
      exact g.law.good.edge this.2.2.2.2.1 this.2.2.2.2.2 (hf _ ht).1 (hf _ ht).2
    by_cases he : n.F m = i
    · have e : n.look i j f (m + 1) = n.a.B.get (n.look i j f m) (n.a.E.get (n.E m) (f (n.T m).toNat)) := by
        rw [Net.look, if_pos he]
      obtain ⟨c0, c1⟩ := cnd m (by omega)
      generalize hc : n.a.E.get (n.E m) (f (n.T m).toNat) = c at *
      generalize n.look i j f m = o at *
      rw [e]
      rcases g.law.sel o c r.1 r.2 c0 c1 with e1 | e1
      · rw [e1]
        refine ⟨r, ?_, t, fun k hk hek => ?_⟩
        · rcases s with s | ⟨k, hk, s1, s2⟩
          · exact Or.inl s
          · exact Or.inr ⟨k, by omega, s1, s2⟩
        · by_cases ek : k = m
          · subst ek; rw [hc]; exact e1
          · exact u k (by omega) hek
      · rw [e1]
        have hco : n.a.B.get c o = c := by rw [g.law.comm c o c0 c1 r.1 r.2, e1]
        refine ⟨⟨c0, c1⟩, Or.inr ⟨m, by omega, he, hc.symm⟩, g.law.le_trans c0 c1 r.1 r.2 h0.1 h0.2 hco t, fun k hk hek => ?_⟩
        by_cases ek : k = m
        · subst ek
          rw [hc]
          rcases g.law.sel c c c0 c1 c0 c1 with e2 | e2 <;> exact e2
        · obtain ⟨d0, d1⟩ := cnd k (by omega)
          exact g.law.le_trans c0 c1 r.1 r.2 d0 d1 hco (u k (by omega) hek)
    · have e : n.look i j f (m + 1) = n.look i j f m := by rw [Net.look, if_neg he]
      rw [e]
      refine ⟨r, ?_, t, fun k hk hek => ?_⟩
      · rcases s with s | ⟨k, hk, s1, s2⟩
        · exact Or.inl s
        · exact Or.inr ⟨k, by omega, s1, s2⟩
      · by_cases ek : k = m
        · subst ek; exact absurd hek he
        · exact u k (by omega) hek

/-- The order is nothing. -/
theorem Net.look_route (h : n.check = 0) {f : Nat → Int} (hf : n.Routes f) (i j : Nat) : n.look i j f n.ln = n.route i j f := by
  have g := Net.good_of_check h
  obtain ⟨r, s, t, u⟩ := n.look_spec g hf i j n.ln (Nat.le_refl _)
  obtain ⟨r', s', t', u'⟩ := n.out_spec g hf i j n.N (Nat.le_refl _)
  have e0 : n.look i j f 0 = n.out i j f 0 := rfl
  unfold Net.route
  refine g.law.le_anti r.1 r.2 r'.1 r'.2 ?_ ?_
  · rcases s' with s' | ⟨k, hk, s1, s2⟩
    · rw [s', ← e0]; exact t
    · obtain ⟨l, hl, e1, e2, e3⟩ := n.link_edge s1
      have := u l hl e1
      rw [e2, e3] at this
      rw [s2]
      simpa using this
  · rcases s with s | ⟨l, hl, s1, s2⟩
    · rw [s, e0]; exact t'
    · have gl := g.link l hl
      have ek : n.edge i ((n.T l).toNat : Nat) = n.E l := by
        rw [← s1, show (((n.T l).toNat : Nat) : Int) = n.T l by omega]
        exact n.edge_link h hl
      have := u' (n.T l).toNat (by unfold Net.N; omega) (by rw [ek]; exact gl.2.2.2.2.1)
      rw [ek] at this
      rw [s2]
      exact this
end

end Go.Proofs.YtjhkadffaephmabGreat

/-
  signpostref.SameInts, SameState, SameAlgebra.
-/
namespace Go.Proofs.YtjhkadffaephmabGreat
open Go.RowKit

/-- A list of numbers in memory. -/
structure Ints (a : Option Addr) (l b o : Nat) (f : Nat → Int) (w : World) : Prop where
  addr : 0 < l → a = some ⟨b, o, none⟩
  cell : ∀ i, i < l → w.cell? ⟨b, o + i, none⟩ = some (.int .i64 (f i))
  len : l ≤ maxLen

theorem ints_drewN {a : Option Addr} {l b o : Nat} {f : Nat → Int} {w : World} (h : Ints a l b o f w) (n : Nat) : Ints a l b o f (w.drewN n) := ⟨h.addr, h.cell, h.len⟩

def sameInts (l m : Nat) (f g : Nat → Int) : Bool := (l == m) && (List.range l).all fun i => f i == g i
theorem sameInts_iff {l m : Nat} {f g : Nat → Int} : sameInts l m f g = true ↔ l = m ∧ ∀ i, i < l → f i = g i := by
  simp [sameInts]
theorem sameInts_false {l m : Nat} {f g : Nat → Int} {i : Nat} (hi : i < l) (h : f i ≠ g i) : sameInts l m f g = false := by
  rw [Bool.eq_false_iff]; intro hw; exact h ((sameInts_iff.1 hw).2 i hi)

set_option maxHeartbeats 1000000 in
theorem sameInts_any (a1 a2 : Option Addr) (l1 l2 q1 q2 b1 o1 b2 o2 : Nat) (f g : Nat → Int) (w : World) (h1 : Ints a1 l1 b1 o1 f w) (h2 : Ints a2 l2 b2 o2 g w) :
    Calls Tryz.prog 38 #[.slice a1 l1 q1, .slice a2 l2 q2] w fun e w' => e = .returned (.bool (sameInts l1 l2 f g)) ∧ ∃ m, w' = w.drewN m := by
  have hl1 := h1.len
  have hl2 := h2.len
  unfold maxLen at hl1 hl2
  by_cases hl : l1 = l2
  · subst hl
    go_enter Tryz.func38, Tryz.ntmps38
    go_wp2
    go_loopw [5] (fun i wr => ∃ k : Nat, k ≤ l1 ∧ i = .int .i64 k ∧ Hid (∀ r, r < k → f r = g r) ∧ Hid (∃ m, wr = w.drewN m)) (fun i _ => l1 - (intOf i).toNat)
    case atStart => exact ⟨0, Nat.zero_le _, rfl, hide (fun r hr => absurd hr (Nat.not_lt_zero _)), hide ⟨0, rfl⟩⟩
    case round =>
      obtain ⟨k, hk, rfl, Hall, HD⟩ := hrel
      by_cases hlt : k < l1
      · have ha1 := h1.addr (by omega)
        have ha2 := h2.addr (by omega)
        have hc1 : wr.cell? ⟨b1, o1 + k, none⟩ = some (.int .i64 (f k)) := by obtain ⟨m, rfl⟩ := HD.out; exact h1.cell k hlt
        have hc2 : wr.cell? ⟨b2, o2 + k, none⟩ = some (.int .i64 (g k)) := by obtain ⟨m, rfl⟩ := HD.out; exact h2.cell k hlt
        have hki : (k : Int) < (l1 : Int) := by omega
        by_cases he : f k = g k
        · have he' : (f k != g k) = false := by simp [he]
          have He := hide he
          clear he
          go_wp2_with fail
          go_quiet (fail)
          go_wp2
          go_roundw
          case rel =>
            have hn : ∀ r, r < k + 1 → f r = g r := fun r hr => by
              by_cases e : r = k
              · subst e; exact He.out
              · exact Hall.out r (by omega)
            exact ⟨k + 1, by omega, by go_num, hide hn, hide (by obtain ⟨m, rfl⟩ := HD.out; exact ⟨_, by rw [World.drewN_drewN]⟩)⟩
          case measure => simp [intOf]; omega
        · have he' : (f k != g k) = true := by simp [he]
          have Hw := hide (sameInts_false (m := l1) hlt he)
          clear he
          go_wp2_with fail
          go_quiet (fail)
          go_wp2
          go_ret
          exact ⟨by rw [Hw.out]; rfl, by obtain ⟨m, rfl⟩ := HD.out; exact ⟨_, by rw [World.drewN_drewN]⟩⟩
      · have Hw : Hid (sameInts l1 l1 f g = true) := hide (sameInts_iff.2 ⟨rfl, fun i hi => Hall.out i (by omega)⟩)
        go_wp2
        go_ret
        exact ⟨by rw [Hw.out]; rfl, HD.out⟩
  · have hne : ((l1 : Int) != (l2 : Int)) = true := by simp; omega
    have Hw : Hid (sameInts l1 l2 f g = false) := hide (by simp [sameInts, hl])
    clear hl
    go_enter Tryz.func38, Tryz.ntmps38
    go_wp2
    go_ret
    exact ⟨by rw [Hw.out]; rfl, 0, rfl⟩

/-- Are two tables the same? -/
def Tab.same (s t : Tab) : Bool := (s.len == t.len) && (List.range s.len).all fun r => sameInts (s.L r) (t.L r) (s.Z r) (t.Z r)
theorem Tab.same_iff {s t : Tab} : s.same t = true ↔ s.len = t.len ∧ ∀ r, r < s.len → s.L r = t.L r ∧ ∀ c, c < s.L r → s.Z r c = t.Z r c := by
  simp only [Tab.same, Bool.and_eq_true, beq_iff_eq, List.all_eq_true, List.mem_range, sameInts_iff]
theorem Tab.same_false {s t : Tab} {r : Nat} (hr : r < s.len) (h : sameInts (s.L r) (t.L r) (s.Z r) (t.Z r) = false) : s.same t = false := by
  rw [Bool.eq_false_iff]; intro hw
  simp only [Tab.same, Bool.and_eq_true, List.all_eq_true, List.mem_range] at hw
  rw [hw.2 r hr] at h
  cases h
theorem Tab.same_true {s t : Tab} (hl : s.len = t.len) (h : ∀ r, r < s.len → sameInts (s.L r) (t.L r) (s.Z r) (t.Z r) = true) : s.same t = true := by
  simp only [Tab.same, Bool.and_eq_true, List.all_eq_true, List.mem_range]
  exact ⟨by simp [hl], h⟩
theorem Mat.In.ints {m : Mat} {n : Nat} {w : World} (h : m.In n w) {r : Nat} (hr : r < m.t.len) : Ints (m.A r) (m.t.L r) (m.RB r) (m.RO r) (m.t.Z r) w :=
  ⟨fun h0 => (h.addr r hr h0).1, fun i hi => h.cell r hr i hi, h.lens r hr⟩

set_option maxHeartbeats 1000000 in
theorem sameState_any (x y : Mat) (n : Nat) (w : World) (h1 : x.In n w) (h2 : y.In n w) :
    Calls Tryz.prog 68 #[x.val, y.val] w fun e w' => e = .returned (.bool (x.t.same y.t)) ∧ ∃ m, w' = w.drewN m := by
  have hl1 := h1.len
  have hl2 := h2.len
  unfold maxLen at hl1 hl2
  simp only [Mat.val]
  by_cases hl : x.t.len = y.t.len
  · have Hl := hide hl
    have hne : ((x.t.len : Int) != (y.t.len : Int)) = false := by simp [hl]
    clear hl
    go_enter Tryz.func68, Tryz.ntmps68
    go_wp2
    go_loopw [5] (fun i wr => ∃ k : Nat, k ≤ x.t.len ∧ i = .int .i64 k ∧ Hid (∀ r, r < k → sameInts (x.t.L r) (y.t.L r) (x.t.Z r) (y.t.Z r) = true) ∧ Hid (∃ m, wr = w.drewN m)) (fun i _ => x.t.len - (intOf i).toNat)
    case atStart => exact ⟨0, Nat.zero_le _, rfl, hide (fun r hr => absurd hr (Nat.not_lt_zero _)), hide ⟨0, rfl⟩⟩
    case round =>
      obtain ⟨k, hk, rfl, Hall, HD⟩ := hrel
      by_cases hlt : k < x.t.len
      · have hlt2 : k < y.t.len := by have := Hl.out; omega
        have ha1 := h1.ga (by omega)
        have ha2 := h2.ga (by omega)
        have hc1 : wr.cell? ⟨x.gb, x.go + k, none⟩ = some (.slice (x.A k) (x.t.L k) (x.C k)) := by obtain ⟨m, rfl⟩ := HD.out; exact h1.row k hlt
        have hc2 : wr.cell? ⟨y.gb, y.go + k, none⟩ = some (.slice (y.A k) (y.t.L k) (y.C k)) := by obtain ⟨m, rfl⟩ := HD.out; exact h2.row k hlt2
        have hki : (k : Int) < (x.t.len : Int) := by omega
        have hki2 : (k : Int) < (y.t.len : Int) := by omega
        have hS := hide (fun q => sameInts_any (x.A k) (y.A k) (x.t.L k) (y.t.L k) (x.C k) (y.C k) _ _ _ _ _ _ (wr.drewN q) (ints_drewN (w := wr) (by obtain ⟨m, rfl⟩ := HD.out; exact ints_drewN (h1.ints hlt) m) q) (ints_drewN (w := wr) (by obtain ⟨m, rfl⟩ := HD.out; exact ints_drewN (h2.ints hlt2) m) q))
        cases hs : sameInts (x.t.L k) (y.t.L k) (x.t.Z k) (y.t.Z k) with
        | true =>
          simp only [hs] at hS
          have Hs := hide hs
          clear hs
          go_wp2_with fail
          go_quiet ((go_at_call 38; exact Calls.quiet_of (hS.out _)))
          go_wp2
          go_roundw
          case rel =>
            have hn : ∀ r, r < k + 1 → sameInts (x.t.L r) (y.t.L r) (x.t.Z r) (y.t.Z r) = true := fun r hr => by
              by_cases e : r = k
              · subst e; exact Hs.out
              · exact Hall.out r (by omega)
            exact ⟨k + 1, by omega, by go_num, hide hn, hide (by obtain ⟨m, rfl⟩ := HD.out; exact ⟨_, by rw [World.drewN_drewN]⟩)⟩
          case measure => simp [intOf]; omega
        | false =>
          simp only [hs] at hS
          have Hw := hide (Tab.same_false hlt hs)
          clear hs
          go_wp2_with fail
          go_quiet ((go_at_call 38; exact Calls.quiet_of (hS.out _)))
          go_wp2
          go_ret
          exact ⟨by rw [Hw.out]; rfl, by obtain ⟨m, rfl⟩ := HD.out; exact ⟨_, by rw [World.drewN_drewN]⟩⟩
      · have Hw : Hid (x.t.same y.t = true) := hide (Tab.same_true Hl.out (fun i hi => Hall.out i (by omega)))
        go_wp2
        go_ret
        exact ⟨by rw [Hw.out]; rfl, HD.out⟩
  · have hne : ((x.t.len : Int) != (y.t.len : Int)) = true := by simp; omega
    have Hw : Hid (x.t.same y.t = false) := hide (by simp [Tab.same, hl])
    clear hl
    go_enter Tryz.func68, Tryz.ntmps68
    go_wp2
    go_ret
    exact ⟨by rw [Hw.out]; rfl, 0, rfl⟩

end Go.Proofs.YtjhkadffaephmabGreat

/-
  slices.IndexFunc and slices.ContainsFunc, whatever the closure, at numbers and at rows; state.Below, state.AllBelow.
-/
namespace Go.Proofs.YtjhkadffaephmabGreat
set_option maxRecDepth 100000
open Go.RowKit

theorem Ints.below {a : Option Addr} {l b o k : Nat} {f : Nat → Int} {w w' : World} (h : Ints a l b o f w) (hb : Below k w w') (hk : 0 < l → b < k) : Ints a l b o f w' :=
  ⟨h.addr, fun i hi => by rw [hb.cell (p := ⟨b, o + i, none⟩) (hk (by omega))]; exact h.cell i hi, h.len⟩

set_option maxHeartbeats 1000000 in
theorem indexFunc_ints (fid : Nat) (cap : Array Value) (a : Option Addr) (l q b o : Nat) (f : Nat → Int) (p : Nat → Bool) (w : World) (h : Ints a l b o f w) (hb : 0 < l → b < w.heap.size)
    (hcf : ∀ (args : Array Value) (W : World), (callFunc fid args).run Tryz.prog W = .ok (.enter fid args) W)
    (hat : ∀ (i : Nat) (W : World), i < l → Below w.heap.size w W → Calls Tryz.prog fid (#[.int .i64 (f i)] ++ cap) W fun e w' => e = .returned (.bool (p i)) ∧ Below W.heap.size W w') :
    Calls Tryz.prog 97 #[.slice a l q, .func (.func fid) #[] cap] w fun e w' => (∃ r : Int, e = .returned (.int .i64 r) ∧ decide (0 ≤ r) = (List.range l).any p) ∧ Below w.heap.size w w' := by
  have hlen := h.len
  unfold maxLen at hlen
  have HA := hide hat
  have H := hide h
  have Hb := hide hb
  clear hat h
  go_enter Tryz.func97, Tryz.ntmps97
  go_wp2
  go_loopw [5, 8] (fun _ i wr => ∃ k : Nat, k ≤ l ∧ i = .int .i64 k ∧ Hid (∀ r, r < k → p r = false) ∧ Hid (Below w.heap.size w wr)) (fun _ i _ => l - (intOf i).toNat)
  case atStart => exact ⟨0, Nat.zero_le _, rfl, hide (fun r hr => absurd hr (Nat.not_lt_zero _)), hide (Below.refl _ _)⟩
  case round =>
    obtain ⟨k, hk, rfl, Hall, HB⟩ := hrel
    by_cases hlt : k < l
    · have ha := H.out.addr (by omega)
      have hc := (H.out.below HB.out Hb.out).cell k hlt
      have hki : (k : Int) < (l : Int) := by omega
      have HC := hide (HA.out k wr hlt HB.out)
      by_cases hp : p k = true
      · rw [hp] at HC
        have Hw : Hid ((List.range l).any p = true) := hide (List.any_eq_true.2 ⟨k, List.mem_range.2 hlt, hp⟩)
        clear hp
        go_wp2_with fail
        refine HC.out.mono ?_
        rintro e w2 ⟨rfl, hb2⟩
        have HB2 := hide (HB.out.trans (hb2.mono HB.out.size))
        clear hb2
        go_wp2
        go_ret
        exact ⟨⟨(k : Int), rfl, by rw [Hw.out]; simp⟩, HB2.out⟩
      · have hpf : p k = false := by simpa using hp
        rw [hpf] at HC
        have Hpf := hide hpf
        clear hp hpf
        go_wp2_with fail
        refine HC.out.mono ?_
        rintro e w2 ⟨rfl, hb2⟩
        have HB2 := hide (HB.out.trans (hb2.mono HB.out.size))
        clear hb2
        have Hn : Hid (∀ r, r < k + 1 → p r = false) := hide (fun r hr => by
          by_cases e : r = k
          · subst e; exact Hpf.out
          · exact Hall.out r (by omega))
        go_wp2
        go_roundw
        case rel =>
          first
          | exact ⟨k + 1, by omega, by go_num, Hn, HB2⟩
          | ((try rw [← ha]); (repeat apply Exists.intro); refine ⟨?_, rfl⟩; exact ⟨k + 1, by omega, by go_num, Hn, HB2⟩)
        case measure => simp [intOf]; omega
    · have Hw : Hid ((List.range l).any p = false) := hide (by
        rw [List.any_eq_false]
        intro r hr
        rw [Hall.out r (by have := List.mem_range.1 hr; omega)]; decide)
      go_wp2
      go_ret
      exact ⟨⟨-1, rfl, by rw [Hw.out]; rfl⟩, HB.out⟩

set_option maxHeartbeats 400000 in
theorem containsFunc_ints (fid : Nat) (cap : Array Value) (a : Option Addr) (l q b o : Nat) (f : Nat → Int) (p : Nat → Bool) (w : World) (h : Ints a l b o f w) (hb : 0 < l → b < w.heap.size)
    (hcf : ∀ (args : Array Value) (W : World), (callFunc fid args).run Tryz.prog W = .ok (.enter fid args) W)
    (hat : ∀ (i : Nat) (W : World), i < l → Below w.heap.size w W → Calls Tryz.prog fid (#[.int .i64 (f i)] ++ cap) W fun e w' => e = .returned (.bool (p i)) ∧ Below W.heap.size W w') :
    Calls Tryz.prog 83 #[.slice a l q, .func (.func fid) #[] cap] w fun e w' => e = .returned (.bool ((List.range l).any p)) ∧ Below w.heap.size w w' := by
  have HC := hide (indexFunc_ints fid cap a l q b o f p w h hb hcf hat)
  skip
  clear h hat hcf
  go_enter Tryz.func83, Tryz.ntmps83
  go_wp2_with fail
  go_at_call 97
  refine HC.out.mono ?_
  rintro e w1 ⟨⟨r, rfl, hr⟩, hb⟩
  have HB := hide hb
  have HR := hide hr
  clear hb hr
  go_wp2
  go_ret
  exact ⟨by rw [← HR.out]; rfl, HB.out⟩

set_option maxHeartbeats 1000000 in
theorem indexFunc_rows (fid : Nat) (cap : Array Value) (x : Mat) (p : Nat → Bool) (w : World) (h : x.In w.heap.size w)
    (hcf : ∀ (args : Array Value) (W : World), (callFunc fid args).run Tryz.prog W = .ok (.enter fid args) W)
    (hat : ∀ (i : Nat) (W : World), i < x.t.len → Below w.heap.size w W → Calls Tryz.prog fid (#[.slice (x.A i) (x.t.L i) (x.C i)] ++ cap) W fun e w' => e = .returned (.bool (p i)) ∧ Below W.heap.size W w') :
    Calls Tryz.prog 85 #[x.val, .func (.func fid) #[] cap] w fun e w' => (∃ r : Int, e = .returned (.int .i64 r) ∧ decide (0 ≤ r) = (List.range x.t.len).any p) ∧ Below w.heap.size w w' := by
  have hlen := h.len
  unfold maxLen at hlen
  have HA := hide hat
  have H := hide h
  simp only [Mat.val]
  clear hat h
  go_enter Tryz.func85, Tryz.ntmps85
  go_wp2
  go_loopw [5, 8] (fun _ i wr => ∃ k : Nat, k ≤ x.t.len ∧ i = .int .i64 k ∧ Hid (∀ r, r < k → p r = false) ∧ Hid (Below w.heap.size w wr)) (fun _ i _ => x.t.len - (intOf i).toNat)
  case atStart => exact ⟨0, Nat.zero_le _, rfl, hide (fun r hr => absurd hr (Nat.not_lt_zero _)), hide (Below.refl _ _)⟩
  case round =>
    obtain ⟨k, hk, rfl, Hall, HB⟩ := hrel
    by_cases hlt : k < x.t.len
    · have ha := H.out.ga (by omega)
      have hc := (H.out.below HB.out (Nat.le_refl _)).row k hlt
      have hki : (k : Int) < (x.t.len : Int) := by omega
      have HC := hide (HA.out k wr hlt HB.out)
      by_cases hp : p k = true
      · rw [hp] at HC
        have Hw : Hid ((List.range x.t.len).any p = true) := hide (List.any_eq_true.2 ⟨k, List.mem_range.2 hlt, hp⟩)
        clear hp
        go_wp2_with fail
        refine HC.out.mono ?_
        rintro e w2 ⟨rfl, hb2⟩
        have HB2 := hide (HB.out.trans (hb2.mono HB.out.size))
        clear hb2
        go_wp2
        go_ret
        exact ⟨⟨(k : Int), rfl, by rw [Hw.out]; simp⟩, HB2.out⟩
      · have hpf : p k = false := by simpa using hp
        rw [hpf] at HC
        have Hpf := hide hpf
        clear hp hpf
        go_wp2_with fail
        refine HC.out.mono ?_
        rintro e w2 ⟨rfl, hb2⟩
        have HB2 := hide (HB.out.trans (hb2.mono HB.out.size))
        clear hb2
        have Hn : Hid (∀ r, r < k + 1 → p r = false) := hide (fun r hr => by
          by_cases e : r = k
          · subst e; exact Hpf.out
          · exact Hall.out r (by omega))
        go_wp2
        go_roundw
        case rel =>
          first
          | exact ⟨k + 1, by omega, by go_num, Hn, HB2⟩
          | ((try rw [← ha]); (repeat apply Exists.intro); refine ⟨?_, rfl⟩; exact ⟨k + 1, by omega, by go_num, Hn, HB2⟩)
        case measure => simp [intOf]; omega
    · have Hw : Hid ((List.range x.t.len).any p = false) := hide (by
        rw [List.any_eq_false]
        intro r hr
        rw [Hall.out r (by have := List.mem_range.1 hr; omega)]; decide)
      go_wp2
      go_ret
      exact ⟨⟨-1, rfl, by rw [Hw.out]; rfl⟩, HB.out⟩

set_option maxHeartbeats 400000 in
theorem containsFunc_rows (fid : Nat) (cap : Array Value) (x : Mat) (p : Nat → Bool) (w : World) (h : x.In w.heap.size w)
    (hcf : ∀ (args : Array Value) (W : World), (callFunc fid args).run Tryz.prog W = .ok (.enter fid args) W)
    (hat : ∀ (i : Nat) (W : World), i < x.t.len → Below w.heap.size w W → Calls Tryz.prog fid (#[.slice (x.A i) (x.t.L i) (x.C i)] ++ cap) W fun e w' => e = .returned (.bool (p i)) ∧ Below W.heap.size W w') :
    Calls Tryz.prog 60 #[x.val, .func (.func fid) #[] cap] w fun e w' => e = .returned (.bool ((List.range x.t.len).any p)) ∧ Below w.heap.size w w' := by
  have HC := hide (indexFunc_rows fid cap x p w h  hcf hat)
  simp only [Mat.val] at HC ⊢
  clear h hat hcf
  go_enter Tryz.func60, Tryz.ntmps60
  go_wp2_with fail
  go_at_call 85
  refine HC.out.mono ?_
  rintro e w1 ⟨⟨r, rfl, hr⟩, hb⟩
  have HB := hide hb
  have HR := hide hr
  clear hb hr
  go_wp2
  go_ret
  exact ⟨by rw [← HR.out]; rfl, HB.out⟩

set_option maxHeartbeats 400000 in
theorem sbelow_any (x n : Int) (w : World) :
    Calls Tryz.prog 62 #[.int .i64 x, .int .i64 n] w fun e w' => e = .returned (.bool (decide (0 ≤ x) && decide (x < n))) ∧ w' = w := by
  by_cases h : 0 ≤ x
  · go_enter Tryz.func62, Tryz.ntmps62
    go_wp2
    go_ret
    exact ⟨by simp [h], rfl⟩
  · go_enter Tryz.func62, Tryz.ntmps62
    go_wp2
    go_ret
    exact ⟨by simp; omega, rfl⟩

theorem calls_allBelow1 (args : Array Value) (W : World) : (callFunc 84 args).run Tryz.prog W = .ok (.enter 84 args) W := by rfl

set_option maxHeartbeats 400000 in
theorem allBelow1_any (x s : Int) (bx : Nat) (w : World) (h : w.cell? ⟨bx, 0, none⟩ = some (.int .i64 s)) :
    Calls Tryz.prog 84 #[.int .i64 x, .pointer (some ⟨bx, 0, none⟩)] w fun e w' => e = .returned (.bool (!(decide (0 ≤ x) && decide (x < s)))) ∧ w' = w := by
  have HS := hide (sbelow_any x s w)
  generalize hv : (decide (0 ≤ x) && decide (x < s)) = v at HS ⊢
  clear hv
  go_enter Tryz.func84, Tryz.ntmps84
  go_wp2_with fail
  go_at_call 62
  refine HS.out.mono ?_
  rintro e w1 ⟨rfl, rfl⟩
  go_wp2
  go_ret
  exact ⟨rfl, rfl⟩

/-- All of a row are routes. -/
def rowIn (l : Nat) (f : Nat → Int) (s : Int) : Bool := (List.range l).all fun j => decide (0 ≤ f j) && decide (f j < s)
theorem rowIn_iff {l : Nat} {f : Nat → Int} {s : Int} : rowIn l f s = true ↔ ∀ j, j < l → 0 ≤ f j ∧ f j < s := by simp [rowIn]
theorem rowIn_any (l : Nat) (f : Nat → Int) (s : Int) : (!(List.range l).any fun j => !(decide (0 ≤ f j) && decide (f j < s))) = rowIn l f s := by
  unfold rowIn
  rw [List.all_eq_not_any_not]

set_option maxHeartbeats 1000000 in
theorem sallBelow_any (a : Option Addr) (l q b o : Nat) (f : Nat → Int) (s : Int) (w : World) (h : Ints a l b o f w) (hb : 0 < l → b < w.heap.size) :
    Calls Tryz.prog 58 #[.slice a l q, .int .i64 s] w fun e w' => e = .returned (.bool (rowIn l f s)) ∧ Below w.heap.size w w' := by
  have hBa : Below w.heap.size w (w.alloc (.cells #[.int .i64 s] 3)) := (Below.refl _ w).alloc (Nat.le_refl _) _
  have b0 := Blk.new w #[.int .i64 s] 3
  have HC := hide (containsFunc_ints 84 #[.pointer (some ⟨w.heap.size, 0, none⟩)] a l q b o f (fun j => !(decide (0 ≤ f j) && decide (f j < s))) _ (h.below hBa hb) (fun h0 => Nat.lt_of_lt_of_le (hb h0) hBa.size) calls_allBelow1 (fun i W hi hB => by
    refine (allBelow1_any (f i) s w.heap.size W ((b0.below hB b0.lt).cell 0)).mono ?_
    rintro e w' ⟨rfl, rfl⟩
    exact ⟨rfl, Below.refl _ _⟩))
  have HBa := hide hBa
  have HI := hide (rowIn_any l f s)
  clear h hb hBa b0
  go_enter Tryz.func58, Tryz.ntmps58
  go_wp2_with fail
  go_at_call 83
  refine HC.out.mono ?_
  rintro e w1 ⟨rfl, hb1⟩
  have HB := hide (HBa.out.trans (hb1.mono HBa.out.size))
  generalize hv : ((List.range l).any fun j => !(decide (0 ≤ f j) && decide (f j < s))) = v at HI ⊢
  clear hv hb1
  go_wp2
  go_ret
  exact ⟨by rw [← HI.out]; rfl, HB.out⟩

end Go.Proofs.YtjhkadffaephmabGreat

/-
  Nets in memory; state.Square; state.Own.
-/
namespace Go.Proofs.YtjhkadffaephmabGreat
set_option maxRecDepth 100000
open Go.RowKit

/-- A net in memory. -/
structure NetM where
  a : AlgM
  nodes : Int
  la : Option Addr
  ln : Nat
  lc : Nat
  lb : Nat
  lo : Nat
  F : Nat → Int
  T : Nat → Int
  E : Nat → Int

def NetM.cells (n : NetM) : Array Value := #[.int .i64 n.a.size, n.a.B.val, n.a.E.val, .int .i64 n.nodes, .slice n.la n.ln n.lc]
def NetM.val (n : NetM) : Value := .agg n.cells
def NetM.net (n : NetM) : Net := ⟨n.a.alg, n.nodes, n.ln, n.F, n.T, n.E⟩

structure NetM.In (n : NetM) (N : Nat) (w : World) : Prop where
  a : n.a.In N w
  la : 0 < n.ln → n.la = some ⟨n.lb, n.lo, none⟩
  lb : 0 < n.ln → n.lb < N
  f : ∀ i, i < n.ln → w.cell? ⟨n.lb, n.lo + i * 3, none⟩ = some (.int .i64 (n.F i))
  t : ∀ i, i < n.ln → w.cell? ⟨n.lb, n.lo + i * 3 + 1, none⟩ = some (.int .i64 (n.T i))
  e : ∀ i, i < n.ln → w.cell? ⟨n.lb, n.lo + i * 3 + 2, none⟩ = some (.int .i64 (n.E i))
  len : n.ln ≤ maxLen

theorem NetM.In.below {n : NetM} {N k : Nat} {w w' : World} (h : n.In N w) (hb : Below k w w') (hk : N ≤ k) : n.In N w' where
  a := h.a.below hb hk
  la := h.la
  lb := h.lb
  f := fun i hi => by rw [hb.cell (p := ⟨n.lb, n.lo + i * 3, none⟩) (Nat.lt_of_lt_of_le (h.lb (by omega)) hk)]; exact h.f i hi
  t := fun i hi => by rw [hb.cell (p := ⟨n.lb, n.lo + i * 3 + 1, none⟩) (Nat.lt_of_lt_of_le (h.lb (by omega)) hk)]; exact h.t i hi
  e := fun i hi => by rw [hb.cell (p := ⟨n.lb, n.lo + i * 3 + 2, none⟩) (Nat.lt_of_lt_of_le (h.lb (by omega)) hk)]; exact h.e i hi
  len := h.len
theorem NetM.In.mono {n : NetM} {N k : Nat} {w : World} (h : n.In N w) (hk : N ≤ k) : n.In k w where
  a := h.a.mono hk
  la := h.la
  lb := fun h0 => Nat.lt_of_lt_of_le (h.lb h0) hk
  f := h.f
  t := h.t
  e := h.e
  len := h.len
theorem NetM.In.grown {n : NetM} {w w' : World} (h : n.In w.heap.size w) (hb : Below w.heap.size w w') : n.In w'.heap.size w' :=
  (h.below hb (Nat.le_refl _)).mono hb.size
theorem Mat.In.grown {m : Mat} {w w' : World} (h : m.In w.heap.size w) (hb : Below w.heap.size w w') : m.In w'.heap.size w' :=
  (h.below hb (Nat.le_refl _)).mono hb.size

set_option maxHeartbeats 400000 in
theorem own_any (n : NetM) (i j : Nat) (w : World) (h0 : 2 ≤ n.a.size) (h1 : n.a.size ≤ 24) :
    Calls Tryz.prog 49 #[n.val, .int .i64 i, .int .i64 j] w fun e w' => e = .returned (.int .i64 (n.net.begin i j)) ∧ Below w.heap.size w w' := by
  have Hd : Hid (n.net.begin i j = if i = j then 0 else n.a.size - 1) := hide rfl
  have hb0 : ∀ o, Below w.heap.size w (w.alloc o) := fun o => (Below.refl _ _).alloc (Nat.le_refl _) _
  simp only [NetM.val, NetM.cells, Mat.val]
  by_cases e : i = j
  · have Hd2 : Hid (n.net.begin i j = 0) := hide (by rw [Hd.out, if_pos e])
    subst e
    clear Hd
    go_enter Tryz.func49, Tryz.ntmps49
    go_wp2
    go_ret
    exact ⟨by rw [Hd2.out]; rfl, hb0 _⟩
  · have he : ((i : Int) == (j : Int)) = false := by simp; omega
    have Hd2 : Hid (n.net.begin i j = n.a.size - 1) := hide (by rw [Hd.out, if_neg e])
    clear e Hd
    go_enter Tryz.func49, Tryz.ntmps49
    go_wp2
    go_ret
    exact ⟨by rw [Hd2.out]; rfl, hb0 _⟩

end Go.Proofs.YtjhkadffaephmabGreat

/-
  plan.table: a table that a function makes.
-/
namespace Go.Proofs.YtjhkadffaephmabGreat
set_option maxRecDepth 100000
open Go.RowKit

theorem Tryz.infoInt : (Tryz.prog.info? 3).map (fun i => (i.zero, i.size, i.bytes)) = some (some (.int .i64 0), 1, 8) := by kernel_rfl
theorem Tryz.infoInts : (Tryz.prog.info? 32).map (fun i => (i.zero, i.size, i.bytes)) = some (some (.slice none 0 0), 1, 24) := by kernel_rfl

/-- The cells of a row of which c are made. -/
def rowArr (Z : Nat → Int) (n c : Nat) : Array Value := ((List.range n).map fun j => if j < c then Value.int .i64 (Z j) else .int .i64 0).toArray
theorem rowArr_get {Z : Nat → Int} {n c j : Nat} (h : j < n) : (rowArr Z n c)[j]? = some (if j < c then Value.int .i64 (Z j) else .int .i64 0) := by
  simp [rowArr, h]
theorem rowArr_set {Z : Nat → Int} {n c : Nat} : (rowArr Z n c).setIfInBounds c (.int .i64 (Z c)) = rowArr Z n (c + 1) := by
  apply Array.ext
  · simp [rowArr]
  · intro j h1 h2
    have hn : j < n := by simpa [rowArr] using h2
    by_cases e : c = j
    · subst e
      simp [rowArr]
    · rw [Array.getElem_setIfInBounds_ne (by simpa [rowArr] using hn) e]
      simp only [rowArr, List.getElem_toArray, List.getElem_map, List.getElem_range]
      by_cases h : j < c
      · rw [if_pos h, if_pos (by omega)]
      · rw [if_neg h, if_neg (by omega)]
theorem rowArr_zero (Z : Nat → Int) (n : Nat) : madeCells #[.int .i64 0] n = rowArr Z n 0 := by
  apply Array.ext'
  rw [toList_madeCells_one]
  simp [rowArr, List.map_const']

theorem Blk.other {W : World} {B C : Nat} {vs : Array Value} {t : TypeId} (h : Blk W B vs t) (hne : B ≠ C) (i : Nat) (v : Value) : Blk (W.setCell ⟨C, i, none⟩ v) B vs t := by
  unfold Blk
  rw [show (W.setCell ⟨C, i, none⟩ v).heap[B]? = (W.heap.modify C _)[B]? from rfl, Array.getElem?_modify, if_neg (Ne.symm hne)]
  exact h
theorem Blk.drewN {W : World} {B : Nat} {vs : Array Value} {t : TypeId} (h : Blk W B vs t) (n : Nat) : Blk (W.drewN n) B vs t := h

end Go.Proofs.YtjhkadffaephmabGreat
