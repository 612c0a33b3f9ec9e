/-
  Our own texts, bundled: a claim holds few files.
-/
import Derived.Test.YtjhkadffaephmabBundleDH
import Derived.Test.YtjhkadffaephmabBundleBG
import Derived.Test.YtjhkadffaephmabBundleAJ
/-
  table.leastTo, table.Table.
-/
namespace Go.Proofs.Ytjhkadffaephmab
set_option maxRecDepth 100000
open Go.RowKit

/-- The least end of those that are sought. -/
def leastT (T : Nat → Int) (p : Nat → Bool) : Nat → Int
  | 0 => -1
  | l + 1 => if (p l && (leastT T p l == -1 || decide (T l < leastT T p l))) = true then T l else leastT T p l

theorem leastT_spec {T : Nat → Int} {p : Nat → Bool} : ∀ {k : Nat}, (∀ l, l < k → 0 ≤ T l) → (leastT T p k = -1 ∧ ∀ l, l < k → p l = false) ∨ ∃ l, l < k ∧ p l = true ∧ leastT T p k = T l ∧ ∀ j, j < k → p j = true → T l ≤ T j
  | 0, _ => Or.inl ⟨rfl, fun l hl => absurd hl (Nat.not_lt_zero _)⟩
  | k + 1, h => by
    have hk := h k (by omega)
    rw [leastT]
    rcases leastT_spec (p := p) (k := k) (fun l hl => h l (by omega)) with ⟨e, hn⟩ | ⟨l, hl, hp, e, hm⟩
    · rw [e]
      by_cases hpk : p k = true
      · right
        rw [if_pos (by simp [hpk])]
        refine ⟨k, by omega, hpk, rfl, fun j hj hpj => ?_⟩
        by_cases e1 : j = k
        · subst e1; exact Int.le_refl _
        · rw [hn j (by omega)] at hpj; cases hpj
      · left
        rw [if_neg (by simp [hpk])]
        refine ⟨rfl, fun j hj => ?_⟩
        by_cases e1 : j = k
        · subst e1; simpa using hpk
        · exact hn j (by omega)
    · right
      have hl0 := h l (by omega)
      rw [e]
      by_cases hpk : p k = true
      · by_cases hlt : T k < T l
        · rw [if_pos (by simp [hpk, hlt])]
          refine ⟨k, by omega, hpk, rfl, fun j hj hpj => ?_⟩
          by_cases e1 : j = k
          · subst e1; exact Int.le_refl _
          · have := hm j (by omega) hpj; omega
        · rw [if_neg (by simp [hpk]; omega)]
          refine ⟨l, by omega, hp, rfl, fun j hj hpj => ?_⟩
          by_cases e1 : j = k
          · subst e1; omega
          · exact hm j (by omega) hpj
      · rw [if_neg (by simp [hpk])]
        refine ⟨l, by omega, hp, rfl, fun j hj hpj => ?_⟩
        by_cases e1 : j = k
        · subst e1; exact absurd hpj hpk
        · exact hm j (by omega) hpj

/-- It is which node comes next. -/
theorem Net.leastT_next {n : Net} (hck : n.check = 0) {x : Nat → Nat → Int} (hx : n.State x) {i j : Nat} (hj : j < n.N) (hne : i ≠ j) (hv : n.round x i j ≠ n.a.size - 1) :
    leastT n.T (fun l => n.F l == (i : Int) && n.a.E.get (n.E l) (x (n.T l).toNat j) == n.round x i j) n.ln = n.next x i j := by
  have g := Net.good_of_check hck
  have hT : ∀ l, l < n.ln → 0 ≤ n.T l := fun l hl => (g.link l hl).2.2.1
  obtain ⟨k, e1, hk, e2, e3, e4⟩ := n.next_some g hx hj hne hv
  rw [e1]
  obtain ⟨l0, hl0, f1, f2, f3⟩ := n.link_edge e2
  have hp0 : (n.F l0 == (i : Int) && n.a.E.get (n.E l0) (x (n.T l0).toNat j) == n.round x i j) = true := by
    rw [f1, f2, f3, Int.toNat_natCast, e3]; simp
  rcases leastT_spec (p := fun l => n.F l == (i : Int) && n.a.E.get (n.E l) (x (n.T l).toNat j) == n.round x i j) hT with ⟨_, hn⟩ | ⟨l, hl, hp, e, hm⟩
  · have := hn l0 hl0
    rw [hp0] at this; cases this
  · rw [e]
    have h1 := hm l0 hl0 hp0
    rw [f2] at h1
    simp only [Bool.and_eq_true, beq_iff_eq] at hp
    have hTl := hT l hl
    have hed : n.edge i ((n.T l).toNat : Nat) = n.E l := by
      rw [← hp.1, show (((n.T l).toNat : Nat) : Int) = n.T l by omega]
      exact n.edge_link hck hl
    apply Classical.byContradiction
    intro hc
    exact e4 (n.T l).toNat (by omega) (by rw [hed]; exact (g.link l hl).2.2.2.2.1) (by rw [hed]; exact hp.2)

set_option maxHeartbeats 4000000 in
theorem leastTo_any (fid : Nat) (cap : Array Value) (n : NetM) (p : Nat → Bool) (w : World) (h : n.In w.heap.size w) (hck : n.net.check = 0)
    (hcf : ∀ (args : Array Value) (W : World), (callFunc fid args).run Try.prog W = .ok (.enter fid args) W)
    (hat : ∀ (i : Nat) (W : World), i < n.ln → Below w.heap.size w W → Calls Try.prog fid (#[.agg #[.int .i64 (n.F i), .int .i64 (n.T i), .int .i64 (n.E i)]] ++ cap) W fun e w' => e = .returned (.bool (p i)) ∧ Below W.heap.size W w') :
    Calls Try.prog 116 #[n.val, .func (.func fid) #[] cap] w fun e w' => e = .returned (.int .i64 (leastT n.T p n.ln)) ∧ Below w.heap.size w w' := by
  have hlen := h.len
  unfold maxLen at hlen
  have g := Net.good_of_check hck
  have HT : Hid (∀ l, l < n.ln → 0 ≤ n.T l ∧ n.T l < 10) := hide (fun l hl => by
    have := g.link l hl
    have h6 := g.hi
    have e1 : n.net.T l = n.T l := rfl
    omega)
  obtain ⟨W1, hW1⟩ : ∃ W1, W1 = w.alloc (.cells n.cells 41) := ⟨_, rfl⟩
  have hB1 : Below w.heap.size w W1 := by rw [hW1]; exact (Below.refl _ w).alloc (Nat.le_refl _) _
  have b1 : Blk W1 w.heap.size n.cells 41 := by rw [hW1]; exact Blk.new w _ _
  have x4 := b1.cell 4
  simp [NetM.cells, Mat.val] at x4
  have HA := hide hat
  have H := hide h
  have HB1 := hide hB1
  rw [hW1] at x4
  simp only [NetM.val, NetM.cells, Mat.val] at hW1 x4 ⊢
  clear hat h g hck hB1 b1
  go_enter Try.func116, Try.ntmps116
  go_wp2_with fail
  rw [← hW1]
  clear hW1 x4
  go_loopw [5, 7, 11] (fun s _ q wr => ∃ k : Nat, k ≤ n.ln ∧ q = .int .i64 k ∧ s = .int .i64 (leastT n.T p k) ∧ Hid (Below W1.heap.size W1 wr)) (fun _ _ q _ => n.ln - (intOf q).toNat)
  case atStart => exact ⟨0, Nat.zero_le _, rfl, rfl, hide (Below.refl _ _)⟩
  case round =>
    obtain ⟨k, hk, rfl, rfl, HB⟩ := hrel
    have hBw := HB1.out.trans (HB.out.mono HB1.out.size)
    by_cases hlt : k < n.ln
    · have hki : (k : Int) < (n.ln : Int) := by omega
      have hI := H.out.below hBw (Nat.le_refl _)
      have hla := H.out.la (by omega)
      have c0 := hI.f k hlt
      have c1 := hI.t k hlt
      have c2 := hI.e k hlt
      have hT := HT.out k hlt
      have HC := hide (HA.out k (wr.alloc (.cells #[.int .i64 (n.F k), .int .i64 (n.T k), .int .i64 (n.E k)] 79)) hlt (hBw.alloc hBw.size _))
      have HBa := hide (HB.out.alloc HB.out.size (.cells #[.int .i64 (n.F k), .int .i64 (n.T k), .int .i64 (n.E k)] 79))
      have HbL := hide (Blk.new wr #[.int .i64 (n.F k), .int .i64 (n.T k), .int .i64 (n.E k)] 79)
      have Hst : Hid (leastT n.T p (k + 1) = if (p k && (leastT n.T p k == -1 || decide (n.T k < leastT n.T p k))) = true then n.T k else leastT n.T p k) := hide rfl
      generalize leastT n.T p k = cur at *
      clear hI hBw
      go_wp2_with fail
      refine HC.out.mono ?_
      rintro e w2 ⟨rfl, hb2⟩
      have HB2 := hide (HBa.out.trans (hb2.mono HBa.out.size))
      have bL := HbL.out.below hb2 HbL.out.lt
      have d1 := bL.cell 1
      simp at d1
      clear hb2 HC bL
      by_cases hp : p k = true
      · by_cases hc : cur = -1
        · subst hc
          have Hn : Hid (leastT n.T p (k + 1) = n.T k) := hide (by rw [Hst.out, hp]; simp)
          rw [hp]
          clear hp Hst
          go_wp2
          go_roundw
          case rel =>
            first
            | exact ⟨k + 1, by omega, by go_num, by rw [Hn.out], HB2⟩
            | ((try rw [← hla]); (repeat apply Exists.intro); refine ⟨?_, rfl⟩; exact ⟨k + 1, by omega, by go_num, by rw [Hn.out], HB2⟩)
          case measure => simp [intOf]; omega
        · have hc' : (cur == -1) = false := by simp [hc]
          by_cases hl : n.T k < cur
          · have Hn : Hid (leastT n.T p (k + 1) = n.T k) := hide (by rw [Hst.out, hp]; simp [hl])
            rw [hp]
            clear hp Hst hc
            go_wp2
            go_roundw
            case rel =>
              first
              | exact ⟨k + 1, by omega, by go_num, by rw [Hn.out], HB2⟩
              | ((try rw [← hla]); (repeat apply Exists.intro); refine ⟨?_, rfl⟩; exact ⟨k + 1, by omega, by go_num, by rw [Hn.out], HB2⟩)
            case measure => simp [intOf]; omega
          · have hl' : cur ≤ n.T k := by omega
            have Hn : Hid (leastT n.T p (k + 1) = cur) := hide (by rw [Hst.out, hp, hc']; simp [hl])
            rw [hp]
            clear hp Hst hc hl
            go_wp2
            go_roundw
            case rel =>
              first
              | exact ⟨k + 1, by omega, by go_num, by rw [Hn.out], HB2⟩
              | ((try rw [← hla]); (repeat apply Exists.intro); refine ⟨?_, rfl⟩; exact ⟨k + 1, by omega, by go_num, by rw [Hn.out], HB2⟩)
            case measure => simp [intOf]; omega
      · have hp' : p k = false := by simpa using hp
        have Hn : Hid (leastT n.T p (k + 1) = cur) := hide (by rw [Hst.out, hp']; simp)
        rw [hp']
        clear hp hp' Hst
        go_wp2
        go_roundw
        case rel =>
          first
          | exact ⟨k + 1, by omega, by go_num, by rw [Hn.out], HB2⟩
          | ((try rw [← hla]); (repeat apply Exists.intro); refine ⟨?_, rfl⟩; exact ⟨k + 1, by omega, by go_num, by rw [Hn.out], HB2⟩)
        case measure => simp [intOf]; omega
    · have hkn : k = n.ln := by omega
      subst hkn
      have HBw := hide hBw
      clear hBw
      go_wp2
      go_ret
      exact ⟨rfl, HBw.out⟩

end Go.Proofs.Ytjhkadffaephmab

/-
  A region that draws its order, in which what some operations leave is used up by another.
-/
namespace Go.Proofs.Ytjhkadffaephmab
open Go

section
variable {P : Program} {ops : Array Oper} {Q : Exit → Act → World → Prop} {md : Region.Mode}

/-- Each operation, from what those that it waits for have left, as far as none has used it up: c tells who uses it up. -/
def EachOnce (P : Program) (md : Region.Mode) (ops : Array Oper) (Q : Exit → Act → World → Prop) (c : Nat → Nat) (G : World → Prop) (E : Nat → Value → World → Prop) (a0 : Act) : List Oper → Nat → Prop
  | [], _ => True
  | o :: os, i => (∀ (t : Nat → Value) (w : World), G w → (∀ j ∈ waits md o, (c j = i ∨ ops.size ≤ c j) → E j (t j) w) → (∀ k o', ops[k]? = some o' → i ∈ waits md o' → t k = first ops.toList a0 k) →
      ∀ K : Act → World → Prop, (∀ v w', G w' → E i v w' → (∀ j u, j ≠ i → c j ≠ i → E j u w → E j u w') → K ((fill ops.toList 0 t a0).put o.dst v) w') →
        if Region.wanted o (yielded ops (fill ops.toList 0 t a0).tmps) = true then Oper.wp P o (fill ops.toList 0 t a0) w K Q else K ((fill ops.toList 0 t a0).put o.dst undef) w) ∧
    EachOnce P md ops Q c G E a0 os (i + 1)

structure OnceI (md : Region.Mode) (ops : Array Oper) (a0 : Act) (c : Nat → Nat) (G : World → Prop) (E : Nat → Value → World → Prop) (d : Nat → Bool) (t : Nat → Value) (w : World) : Prop where
  shut : Shut md ops d
  first : ∀ k, d k = false → t k = first ops.toList a0 k
  held : G w
  left : ∀ k, d k = true → (ops.size ≤ c k ∨ d (c k) = false) → E k (t k) w

theorem each_of_once {c : Nat → Nat} {G : World → Prop} {E : Nat → Value → World → Prop} {a0 : Act} : ∀ (os : List Oper) (i : Nat), (∀ j o, os[j]? = some o → ops[i + j]? = some o) → EachOnce P md ops Q c G E a0 os i → EachI P md ops Q (OnceI md ops a0 c G E) a0 os i
  | [], _, _, _ => trivial
  | o :: os, i, hos, h => by
    have ho : ops[i]? = some o := by simpa using hos 0 o rfl
    have hi : i < ops.size := (Array.getElem?_eq_some_iff.1 ho).1
    refine ⟨fun d t w hI hd hp K hK => ?_, each_of_once os (i + 1) (fun j o' hj => by rw [show i + 1 + j = i + (j + 1) by omega]; exact hos (j + 1) o' (by simpa using hj)) h.2⟩
    refine h.1 t w hI.held (fun j hj hc => hI.left j (hp j hj) (hc.elim (fun e => Or.inr (by rw [e]; exact hd)) Or.inl)) (fun k o' hk hw => hI.first k (by
      cases e : d k with
      | false => rfl
      | true =>
        have := hI.shut k o' hk e i hw
        rw [hd] at this
        cases this)) K (fun v w' hG hE hkeep => hK v w' ⟨hI.shut.upd ho hp, fun k hk => ?_, hG, fun k hk hc => ?_⟩)
    · have e : k ≠ i := fun e => by subst e; simp [updB] at hk
      rw [upd_other t v e]
      exact hI.first k (by simpa [updB, e] using hk)
    by_cases e : k = i
    · subst e; rw [upd_same]; exact hE
    · rw [upd_other t v e]
      have hdk : d k = true := by simpa [updB, e] using hk
      by_cases ec : c k = i
      · rcases hc with hc | hc
        · omega
        · rw [ec] at hc; simp [updB] at hc
      · refine hkeep k (t k) e ec (hI.left k hdk ?_)
        rcases hc with hc | hc
        · exact Or.inl hc
        · exact Or.inr (by simpa [updB, ec] using hc)

theorem wp_region_once {id : Nat} {a : Act} {w : World} (c : Nat → Nat) (G : World → Prop) (E : Nat → Value → World → Prop) (hm : P.follows .mixedOrders = true)
    (hap : allApart ops.toList = true) (hb : backBinds .any ops.toList 0 = true) (hG : G w.drew)
    (hs : EachOnce P .any ops Q c G E a ops.toList 0)
    (hend : ∀ (t : Nat → Value) (w : World), G w → (∀ i, i < ops.size → ops.size ≤ c i → E i (t i) w) → Q .normal (fill ops.toList 0 t a) w) :
    (Code.region id ops true).wp P Q a w := by
  refine wp_region_any hm ?_
  have hz : (fun i => (Array.replicate ops.size false).getD i false) = fun _ => false := by
    funext i
    by_cases hi : i < ops.size
    · simp [hi]
    · simp [hi]
  have := wpAny_inv (md := .any) (I := OnceI .any ops a c G E) hap hb (each_of_once ops.toList 0 (fun j o hj => by simpa using hj) hs) (fun _ t w hI hall => hend t w hI.held (fun i hi hc => hI.left i (hall i hi) (Or.inl hc))) ops.size (Array.replicate ops.size false) (first ops.toList a) w.drew (by simp) (by simp)
    (by rw [hz]; exact ⟨fun i o _ h => by simp at h, fun _ _ => rfl, hG, fun _ h => by cases h⟩)
  rw [fill_first] at this
  exact this

theorem once_of_each {G : World → Prop} {E : Nat → Value → World → Prop} {a0 : Act} : ∀ (os : List Oper) (i : Nat), EachOp P md ops Q G E a0 os i → EachOnce P md ops Q (fun _ => ops.size) G E a0 os i
  | [], _, _ => trivial
  | _ :: os, i, h => ⟨fun t w hG hp _ K hK => h.1 t w hG (fun j hj => hp j hj (Or.inr (Nat.le_refl _))) K (fun v w' hG' hE hk => hK v w' hG' hE (fun j u hj _ hu => hk j u hj hu)), once_of_each os (i + 1) h.2⟩
/-- As wp_region_each, of edges that bind. -/
theorem wp_region_only {id : Nat} {a : Act} {w : World} (G : World → Prop) (E : Nat → Value → World → Prop) (hm : P.follows .mixedOrders = true)
    (hap : allApart ops.toList = true) (hb : backBinds .any ops.toList 0 = true) (hG : G w.drew)
    (hs : EachOp P .any ops Q G E a ops.toList 0)
    (hend : ∀ (t : Nat → Value) (w : World), G w → (∀ i, i < ops.size → E i (t i) w) → Q .normal (fill ops.toList 0 t a) w) :
    (Code.region id ops true).wp P Q a w :=
  wp_region_once (fun _ => ops.size) G E hm hap hb hG (once_of_each ops.toList 0 hs) (fun t w hG hE => hend t w hG (fun i hi => hE i hi (Nat.le_refl _)))
end

end Go.Proofs.Ytjhkadffaephmab

/-
  table.Table: what is sought.
-/
namespace Go.Proofs.Ytjhkadffaephmab
set_option maxRecDepth 100000
open Go.RowKit

theorem calls_table11 (args : Array Value) (W : World) : (callFunc 117 args).run Try.prog W = .ok (.enter 117 args) W := by rfl

set_option maxHeartbeats 4000000 in
theorem table11_any (n : NetM) (x m : Mat) (k i j N bi bn bx bj bm lo : Nat) (w : World) (hlo : lo ≤ w.heap.size) (h : n.In lo w) (hx : x.In lo w) (hm : m.In lo w) (hck : n.net.check = 0) (hN : n.nodes = N) (hk : k < n.ln) (hi : i < N) (hj : j < N) (hix : n.net.Is x.t) (him : n.net.Is m.t)
    (ci : w.cell? ⟨bi, 0, none⟩ = some (.int .i64 i)) (li : bi < w.heap.size) (cn : Blk w bn n.cells 41) (cx : w.cell? ⟨bx, 0, none⟩ = some x.val) (lx : bx < w.heap.size) (cj : w.cell? ⟨bj, 0, none⟩ = some (.int .i64 j)) (lj : bj < w.heap.size) (cm : w.cell? ⟨bm, 0, none⟩ = some m.val) (lm : bm < w.heap.size) :
    Calls Try.prog 117 #[.agg #[.int .i64 (n.F k), .int .i64 (n.T k), .int .i64 (n.E k)], .pointer (some ⟨bi, 0, none⟩), .pointer (some ⟨bn, 0, none⟩), .pointer (some ⟨bx, 0, none⟩), .pointer (some ⟨bj, 0, none⟩), .pointer (some ⟨bm, 0, none⟩)] w fun e w' => e = .returned (.bool (n.F k == (i : Int) && n.net.a.E.get (n.E k) (x.t.Z (n.T k).toNat j) == m.t.Z i j)) ∧ Below w.heap.size w w' := by
  have g := Net.good_of_check hck
  have gl := g.link k hk
  have hNN : n.net.N = N := by show n.nodes.toNat = N; omega
  have hnn : n.net.nodes = n.nodes := rfl
  obtain ⟨kt, hkt⟩ : ∃ kt : Nat, n.T k = kt := ⟨(n.T k).toNat, by have := gl.2.2.1; have e : n.net.T k = n.T k := rfl; omega⟩
  obtain ⟨ke, hke⟩ : ∃ ke : Nat, n.E k = ke := ⟨(n.E k).toNat, by have := gl.2.2.2.2.1; have e : n.net.E k = n.E k := rfl; omega⟩
  have hktN : kt < N := by have := gl.2.2.2.1; have e : n.net.T k = n.T k := rfl; omega
  have hkeE : (ke : Int) < n.a.E.t.len := by have := gl.2.2.2.2.2; have e : n.net.E k = n.E k := rfl; have e2 : n.net.a.E.len = n.a.E.t.len := rfl; omega
  obtain ⟨xv, hxv⟩ : ∃ xv : Nat, x.t.Z kt j = xv := ⟨(x.t.Z kt j).toNat, by have := (hix.state kt j (by omega) (by omega)).1; omega⟩
  have hxs : (xv : Int) < n.a.size := by have := (hix.state kt j (by omega) (by omega)).2; rw [hxv] at this; exact this
  have hB : ∀ o, Below w.heap.size w (w.alloc o) := fun o => (Below.refl w.heap.size w).alloc (Nat.le_refl _) o
  have hA : ∀ o, n.In lo (w.alloc o) := fun o => h.below (hB o) hlo
  obtain ⟨a1, _, _, a4⟩ := h.edgeAt g hkeE hxs
  have a2 : ∀ o, (w.alloc o).cell? ⟨n.a.E.gb, n.a.E.go + ke, none⟩ = some (.slice (some ⟨n.a.E.RB ke, n.a.E.RO ke, none⟩) (n.a.E.t.L ke) (n.a.E.C ke)) := fun o => ((hA o).edgeAt g hkeE hxs).2.1
  have a3 : ∀ o, (w.alloc o).cell? ⟨n.a.E.RB ke, n.a.E.RO ke + xv, none⟩ = some (.int .i64 (n.net.a.E.get ke xv)) := fun o => ((hA o).edgeAt g hkeE hxs).2.2.1
  have hxl := hix.len
  have hml := him.len
  have hxw := hix.wide kt (by omega)
  have hmw := him.wide i (by omega)
  obtain ⟨p1, _, _⟩ := hx.at (r := kt) (c := j) (by omega) (by omega)
  obtain ⟨q1, _, _⟩ := hm.at (r := i) (c := j) (by omega) (by omega)
  have p2 : ∀ o, (w.alloc o).cell? ⟨x.gb, x.go + kt, none⟩ = some (.slice (some ⟨x.RB kt, x.RO kt, none⟩) (x.t.L kt) (x.C kt)) := fun o => ((hx.below (hB o) hlo).at (r := kt) (c := j) (by omega) (by omega)).2.1
  have p3 : ∀ o, (w.alloc o).cell? ⟨x.RB kt, x.RO kt + j, none⟩ = some (.int .i64 (xv : Int)) := fun o => by rw [← hxv]; exact ((hx.below (hB o) hlo).at (r := kt) (c := j) (by omega) (by omega)).2.2
  have q2 : ∀ o, (w.alloc o).cell? ⟨m.gb, m.go + i, none⟩ = some (.slice (some ⟨m.RB i, m.RO i, none⟩) (m.t.L i) (m.C i)) := fun o => ((hm.below (hB o) hlo).at (r := i) (c := j) (by omega) (by omega)).2.1
  have q3 : ∀ o, (w.alloc o).cell? ⟨m.RB i, m.RO i + j, none⟩ = some (.int .i64 (m.t.Z i j)) := fun o => ((hm.below (hB o) hlo).at (r := i) (c := j) (by omega) (by omega)).2.2
  have ca : ∀ {a : Nat} {v : Value}, a < w.heap.size → w.cell? ⟨a, 0, none⟩ = some v → ∀ o, (w.alloc o).cell? ⟨a, 0, none⟩ = some v := fun {a v} hl hv o => by rw [(hB o).cell (p := ⟨a, 0, none⟩) hl]; exact hv
  have yi := ca li ci
  have yx := ca lx cx
  have yj := ca lj cj
  have ym := ca lm cm
  rw [Mat.val, p1] at yx
  rw [Mat.val, q1] at ym
  have yn : ∀ o, (w.alloc o).cell? ⟨bn, 2, none⟩ = some (.slice (some ⟨n.a.E.gb, n.a.E.go, none⟩) n.a.E.t.len n.a.E.cap) := fun o => by
    have := (cn.alloc o).cell 2
    simpa [NetM.cells, Mat.val, a1] using this
  have r1 : (i : Int) < (m.t.len : Int) := by omega
  have r2 : (j : Int) < (m.t.L i : Int) := by omega
  have r3 : (kt : Int) < (x.t.len : Int) := by omega
  have r4 : (j : Int) < (x.t.L kt : Int) := by omega
  have HB : Hid (∀ o q, Below w.heap.size w ((w.alloc o).drewN q)) := hide (fun o q => below_drewN (hB o) q)
  have Hfin : Hid ((n.F k == (i : Int) && n.net.a.E.get (n.E k) (x.t.Z (n.T k).toNat j) == m.t.Z i j) = (n.F k == (i : Int) && n.net.a.E.get ke xv == m.t.Z i j)) := hide (by rw [hke, hkt, Int.toNat_natCast, hxv])
  rw [hkt, hke]
  rw [hkt, hke] at Hfin
  generalize n.F k = kf at *
  generalize n.net.a.E.get ke xv = ev at *
  generalize m.t.Z i j = mv at *
  clear hck g gl hNN hnn hkt hke hxv hB hA a1 p1 q1 ca ci cx cj cm cn h hx hm hix him hxl hml hxw hmw
  by_cases hF : kf = i
  · have h' : (kf == (i : Int)) = true := by simp [hF]
    clear hF
    go_enter Try.func117, Try.ntmps117
    go_wp2
    refine wp_region_only (fun W => W = (w.alloc (.cells #[.int .i64 kf, .int .i64 (kt : Int), .int .i64 (ke : Int)] 79)).drew) (valsE [.pointer (some ⟨w.heap.size, 0, none⟩), .int .i64 kf, .int .i64 i, .bool true, .bool true, .pointer (some ⟨bn, 0, none⟩), .pointer (some ⟨bn, 2, none⟩), .slice (some ⟨n.a.E.gb, n.a.E.go, none⟩) n.a.E.t.len n.a.E.cap, .pointer (some ⟨w.heap.size, 2, none⟩), .int .i64 ke, .pointer (some ⟨n.a.E.gb, n.a.E.go + ke, none⟩), .slice (some ⟨n.a.E.RB ke, n.a.E.RO ke, none⟩) (n.a.E.t.L ke) (n.a.E.C ke), .slice (some ⟨x.gb, x.go, none⟩) x.t.len x.cap, .pointer (some ⟨w.heap.size, 1, none⟩), .int .i64 kt, .pointer (some ⟨x.gb, x.go + kt, none⟩), .slice (some ⟨x.RB kt, x.RO kt, none⟩) (x.t.L kt) (x.C kt), .int .i64 j, .pointer (some ⟨x.RB kt, x.RO kt + j, none⟩), .int .i64 xv, .pointer (some ⟨n.a.E.RB ke, n.a.E.RO ke + xv, none⟩), .int .i64 ev, .slice (some ⟨m.gb, m.go, none⟩) m.t.len m.cap, .int .i64 i, .pointer (some ⟨m.gb, m.go + i, none⟩), .slice (some ⟨m.RB i, m.RO i, none⟩) (m.t.L i) (m.C i), .int .i64 j, .pointer (some ⟨m.RB i, m.RO i + j, none⟩), .int .i64 mv, .bool (ev == mv), .bool (ev == mv), .bool (ev == mv)]) (by kernel_rfl) (by kernel_rfl) (by kernel_rfl) rfl ⟨?_, ?_, ?_, ?_, ?_, ?_, ?_, ?_, ?_, ?_, ?_, ?_, ?_, ?_, ?_, ?_, ?_, ?_, ?_, ?_, ?_, ?_, ?_, ?_, ?_, ?_, ?_, ?_, ?_, ?_, ?_, ?_, trivial⟩ ?_
    rotate_right
    · intro t W hG hE
      have e31 := valsE_get (hE 31 (by decide)) rfl
      subst hG
      clear hE
      simp only [fill, Act.put, List.setIfInBounds_toArray, List.set_cons_zero, List.set_cons_succ, e31]
      go_wp2
      go_ret
      exact ⟨by rw [Hfin.out, h']; rfl, HB.out _ 1⟩
    all_goals intro t W hG hp K hK
    all_goals subst hG
    all_goals simp only [fill, Act.put, List.setIfInBounds_toArray, List.set_cons_zero, List.set_cons_succ] at hK ⊢
    · rw [if_pos (by rfl)]
      go_simp
      exact hK _ _ rfl rfl (fun _ _ _ h => h)
    · have e0 := valsE_get (hp 0 (by decide)) rfl
      simp only [e0] at hK ⊢
      rw [if_pos (by rfl)]
      go_simp
      exact hK _ _ rfl rfl (fun _ _ _ h => h)
    · rw [if_pos (by rfl)]
      go_simp
      exact hK _ _ rfl rfl (fun _ _ _ h => h)
    · have e1 := valsE_get (hp 1 (by decide)) rfl
      have e2 := valsE_get (hp 2 (by decide)) rfl
      simp only [e1, e2] at hK ⊢
      rw [if_pos (by rfl)]
      go_simp
      exact hK _ _ rfl rfl (fun _ _ _ h => h)
    · have e3 := valsE_get (hp 3 (by decide)) rfl
      simp only [e3] at hK ⊢
      rw [if_pos (by rfl)]
      go_simp
      exact hK _ _ rfl rfl (fun _ _ _ h => h)
    · have e4 := valsE_get (hp 4 (by decide)) rfl
      simp only [e4] at hK ⊢
      rw [if_pos (by rfl)]
      go_simp
      exact hK _ _ rfl rfl (fun _ _ _ h => h)
    · have e4 := valsE_get (hp 4 (by decide)) rfl
      have e5 := valsE_get (hp 5 (by decide)) rfl
      simp only [e4, e5] at hK ⊢
      rw [if_pos (by rfl)]
      go_simp
      exact hK _ _ rfl rfl (fun _ _ _ h => h)
    · have e4 := valsE_get (hp 4 (by decide)) rfl
      have e6 := valsE_get (hp 6 (by decide)) rfl
      simp only [e4, e6] at hK ⊢
      rw [if_pos (by rfl)]
      go_simp
      exact hK _ _ rfl rfl (fun _ _ _ h => h)
    · have e4 := valsE_get (hp 4 (by decide)) rfl
      simp only [e4] at hK ⊢
      rw [if_pos (by rfl)]
      go_simp
      exact hK _ _ rfl rfl (fun _ _ _ h => h)
    · have e4 := valsE_get (hp 4 (by decide)) rfl
      have e8 := valsE_get (hp 8 (by decide)) rfl
      simp only [e4, e8] at hK ⊢
      rw [if_pos (by rfl)]
      go_simp
      exact hK _ _ rfl rfl (fun _ _ _ h => h)
    · have e4 := valsE_get (hp 4 (by decide)) rfl
      have e7 := valsE_get (hp 7 (by decide)) rfl
      have e9 := valsE_get (hp 9 (by decide)) rfl
      simp only [e4, e7, e9] at hK ⊢
      rw [if_pos (by rfl)]
      go_simp
      exact hK _ _ rfl rfl (fun _ _ _ h => h)
    · have e4 := valsE_get (hp 4 (by decide)) rfl
      have e10 := valsE_get (hp 10 (by decide)) rfl
      simp only [e4, e10] at hK ⊢
      rw [if_pos (by rfl)]
      go_simp
      exact hK _ _ rfl rfl (fun _ _ _ h => h)
    · have e4 := valsE_get (hp 4 (by decide)) rfl
      simp only [e4] at hK ⊢
      rw [if_pos (by rfl)]
      go_simp
      exact hK _ _ rfl rfl (fun _ _ _ h => h)
    · have e4 := valsE_get (hp 4 (by decide)) rfl
      simp only [e4] at hK ⊢
      rw [if_pos (by rfl)]
      go_simp
      exact hK _ _ rfl rfl (fun _ _ _ h => h)
    · have e4 := valsE_get (hp 4 (by decide)) rfl
      have e13 := valsE_get (hp 13 (by decide)) rfl
      simp only [e4, e13] at hK ⊢
      rw [if_pos (by rfl)]
      go_simp
      exact hK _ _ rfl rfl (fun _ _ _ h => h)
    · have e4 := valsE_get (hp 4 (by decide)) rfl
      have e12 := valsE_get (hp 12 (by decide)) rfl
      have e14 := valsE_get (hp 14 (by decide)) rfl
      simp only [e4, e12, e14] at hK ⊢
      rw [if_pos (by rfl)]
      go_simp
      exact hK _ _ rfl rfl (fun _ _ _ h => h)
    · have e4 := valsE_get (hp 4 (by decide)) rfl
      have e15 := valsE_get (hp 15 (by decide)) rfl
      simp only [e4, e15] at hK ⊢
      rw [if_pos (by rfl)]
      go_simp
      exact hK _ _ rfl rfl (fun _ _ _ h => h)
    · have e4 := valsE_get (hp 4 (by decide)) rfl
      simp only [e4] at hK ⊢
      rw [if_pos (by rfl)]
      go_simp
      exact hK _ _ rfl rfl (fun _ _ _ h => h)
    · have e4 := valsE_get (hp 4 (by decide)) rfl
      have e16 := valsE_get (hp 16 (by decide)) rfl
      have e17 := valsE_get (hp 17 (by decide)) rfl
      simp only [e4, e16, e17] at hK ⊢
      rw [if_pos (by rfl)]
      go_simp
      exact hK _ _ rfl rfl (fun _ _ _ h => h)
    · have e4 := valsE_get (hp 4 (by decide)) rfl
      have e18 := valsE_get (hp 18 (by decide)) rfl
      simp only [e4, e18] at hK ⊢
      rw [if_pos (by rfl)]
      go_simp
      exact hK _ _ rfl rfl (fun _ _ _ h => h)
    · have e4 := valsE_get (hp 4 (by decide)) rfl
      have e11 := valsE_get (hp 11 (by decide)) rfl
      have e19 := valsE_get (hp 19 (by decide)) rfl
      simp only [e4, e11, e19] at hK ⊢
      rw [if_pos (by rfl)]
      go_simp
      exact hK _ _ rfl rfl (fun _ _ _ h => h)
    · have e4 := valsE_get (hp 4 (by decide)) rfl
      have e20 := valsE_get (hp 20 (by decide)) rfl
      simp only [e4, e20] at hK ⊢
      rw [if_pos (by rfl)]
      go_simp
      exact hK _ _ rfl rfl (fun _ _ _ h => h)
    · have e4 := valsE_get (hp 4 (by decide)) rfl
      simp only [e4] at hK ⊢
      rw [if_pos (by rfl)]
      go_simp
      exact hK _ _ rfl rfl (fun _ _ _ h => h)
    · have e4 := valsE_get (hp 4 (by decide)) rfl
      simp only [e4] at hK ⊢
      rw [if_pos (by rfl)]
      go_simp
      exact hK _ _ rfl rfl (fun _ _ _ h => h)
    · have e4 := valsE_get (hp 4 (by decide)) rfl
      have e22 := valsE_get (hp 22 (by decide)) rfl
      have e23 := valsE_get (hp 23 (by decide)) rfl
      simp only [e4, e22, e23] at hK ⊢
      rw [if_pos (by rfl)]
      go_simp
      exact hK _ _ rfl rfl (fun _ _ _ h => h)
    · have e4 := valsE_get (hp 4 (by decide)) rfl
      have e24 := valsE_get (hp 24 (by decide)) rfl
      simp only [e4, e24] at hK ⊢
      rw [if_pos (by rfl)]
      go_simp
      exact hK _ _ rfl rfl (fun _ _ _ h => h)
    · have e4 := valsE_get (hp 4 (by decide)) rfl
      simp only [e4] at hK ⊢
      rw [if_pos (by rfl)]
      go_simp
      exact hK _ _ rfl rfl (fun _ _ _ h => h)
    · have e4 := valsE_get (hp 4 (by decide)) rfl
      have e25 := valsE_get (hp 25 (by decide)) rfl
      have e26 := valsE_get (hp 26 (by decide)) rfl
      simp only [e4, e25, e26] at hK ⊢
      rw [if_pos (by rfl)]
      go_simp
      exact hK _ _ rfl rfl (fun _ _ _ h => h)
    · have e4 := valsE_get (hp 4 (by decide)) rfl
      have e27 := valsE_get (hp 27 (by decide)) rfl
      simp only [e4, e27] at hK ⊢
      rw [if_pos (by rfl)]
      go_simp
      exact hK _ _ rfl rfl (fun _ _ _ h => h)
    · have e4 := valsE_get (hp 4 (by decide)) rfl
      have e21 := valsE_get (hp 21 (by decide)) rfl
      have e28 := valsE_get (hp 28 (by decide)) rfl
      simp only [e4, e21, e28] at hK ⊢
      rw [if_pos (by rfl)]
      go_simp
      exact hK _ _ rfl rfl (fun _ _ _ h => h)
    · have e4 := valsE_get (hp 4 (by decide)) rfl
      have e29 := valsE_get (hp 29 (by decide)) rfl
      simp only [e4, e29] at hK ⊢
      rw [if_pos (by rfl)]
      go_simp
      exact hK _ _ rfl rfl (fun _ _ _ h => h)
    · have e30 := valsE_get (hp 30 (by decide)) rfl
      simp only [e30] at hK ⊢
      rw [if_pos (by rfl)]
      go_simp
      exact hK _ _ rfl rfl (fun _ _ _ h => h)
  · have h' : (kf == (i : Int)) = false := by simp [hF]
    clear hF
    go_enter Try.func117, Try.ntmps117
    go_wp2
    refine wp_region_only (fun W => W = (w.alloc (.cells #[.int .i64 kf, .int .i64 (kt : Int), .int .i64 (ke : Int)] 79)).drew) (valsE [.pointer (some ⟨w.heap.size, 0, none⟩), .int .i64 kf, .int .i64 i, .bool false, .bool false, undef, undef, undef, undef, undef, undef, undef, undef, undef, undef, undef, undef, undef, undef, undef, undef, undef, undef, undef, undef, undef, undef, undef, undef, undef, .bool false, .bool false]) (by kernel_rfl) (by kernel_rfl) (by kernel_rfl) rfl ⟨?_, ?_, ?_, ?_, ?_, ?_, ?_, ?_, ?_, ?_, ?_, ?_, ?_, ?_, ?_, ?_, ?_, ?_, ?_, ?_, ?_, ?_, ?_, ?_, ?_, ?_, ?_, ?_, ?_, ?_, ?_, ?_, trivial⟩ ?_
    rotate_right
    · intro t W hG hE
      have e31 := valsE_get (hE 31 (by decide)) rfl
      subst hG
      clear hE
      simp only [fill, Act.put, List.setIfInBounds_toArray, List.set_cons_zero, List.set_cons_succ, e31]
      go_wp2
      go_ret
      exact ⟨by rw [Hfin.out, h']; rfl, HB.out _ 1⟩
    all_goals intro t W hG hp K hK
    all_goals subst hG
    all_goals simp only [fill, Act.put, List.setIfInBounds_toArray, List.set_cons_zero, List.set_cons_succ] at hK ⊢
    · rw [if_pos (by rfl)]
      go_simp
      exact hK _ _ rfl rfl (fun _ _ _ h => h)
    · have e0 := valsE_get (hp 0 (by decide)) rfl
      simp only [e0] at hK ⊢
      rw [if_pos (by rfl)]
      go_simp
      exact hK _ _ rfl rfl (fun _ _ _ h => h)
    · rw [if_pos (by rfl)]
      go_simp
      exact hK _ _ rfl rfl (fun _ _ _ h => h)
    · have e1 := valsE_get (hp 1 (by decide)) rfl
      have e2 := valsE_get (hp 2 (by decide)) rfl
      simp only [e1, e2] at hK ⊢
      rw [if_pos (by rfl)]
      go_simp
      exact hK _ _ rfl rfl (fun _ _ _ h => h)
    · have e3 := valsE_get (hp 3 (by decide)) rfl
      simp only [e3] at hK ⊢
      rw [if_pos (by rfl)]
      go_simp
      exact hK _ _ rfl rfl (fun _ _ _ h => h)
    · have e4 := valsE_get (hp 4 (by decide)) rfl
      simp only [e4] at hK ⊢
      rw [if_neg (by intro hh; exact absurd (show false = true from hh) (by decide))]
      exact hK undef _ rfl rfl (fun _ _ _ h => h)
    · have e4 := valsE_get (hp 4 (by decide)) rfl
      simp only [e4] at hK ⊢
      rw [if_neg (by intro hh; exact absurd (show false = true from hh) (by decide))]
      exact hK undef _ rfl rfl (fun _ _ _ h => h)
    · have e4 := valsE_get (hp 4 (by decide)) rfl
      simp only [e4] at hK ⊢
      rw [if_neg (by intro hh; exact absurd (show false = true from hh) (by decide))]
      exact hK undef _ rfl rfl (fun _ _ _ h => h)
    · have e4 := valsE_get (hp 4 (by decide)) rfl
      simp only [e4] at hK ⊢
      rw [if_neg (by intro hh; exact absurd (show false = true from hh) (by decide))]
      exact hK undef _ rfl rfl (fun _ _ _ h => h)
    · have e4 := valsE_get (hp 4 (by decide)) rfl
      simp only [e4] at hK ⊢
      rw [if_neg (by intro hh; exact absurd (show false = true from hh) (by decide))]
      exact hK undef _ rfl rfl (fun _ _ _ h => h)
    · have e4 := valsE_get (hp 4 (by decide)) rfl
      simp only [e4] at hK ⊢
      rw [if_neg (by intro hh; exact absurd (show false = true from hh) (by decide))]
      exact hK undef _ rfl rfl (fun _ _ _ h => h)
    · have e4 := valsE_get (hp 4 (by decide)) rfl
      simp only [e4] at hK ⊢
      rw [if_neg (by intro hh; exact absurd (show false = true from hh) (by decide))]
      exact hK undef _ rfl rfl (fun _ _ _ h => h)
    · have e4 := valsE_get (hp 4 (by decide)) rfl
      simp only [e4] at hK ⊢
      rw [if_neg (by intro hh; exact absurd (show false = true from hh) (by decide))]
      exact hK undef _ rfl rfl (fun _ _ _ h => h)
    · have e4 := valsE_get (hp 4 (by decide)) rfl
      simp only [e4] at hK ⊢
      rw [if_neg (by intro hh; exact absurd (show false = true from hh) (by decide))]
      exact hK undef _ rfl rfl (fun _ _ _ h => h)
    · have e4 := valsE_get (hp 4 (by decide)) rfl
      simp only [e4] at hK ⊢
      rw [if_neg (by intro hh; exact absurd (show false = true from hh) (by decide))]
      exact hK undef _ rfl rfl (fun _ _ _ h => h)
    · have e4 := valsE_get (hp 4 (by decide)) rfl
      simp only [e4] at hK ⊢
      rw [if_neg (by intro hh; exact absurd (show false = true from hh) (by decide))]
      exact hK undef _ rfl rfl (fun _ _ _ h => h)
    · have e4 := valsE_get (hp 4 (by decide)) rfl
      simp only [e4] at hK ⊢
      rw [if_neg (by intro hh; exact absurd (show false = true from hh) (by decide))]
      exact hK undef _ rfl rfl (fun _ _ _ h => h)
    · have e4 := valsE_get (hp 4 (by decide)) rfl
      simp only [e4] at hK ⊢
      rw [if_neg (by intro hh; exact absurd (show false = true from hh) (by decide))]
      exact hK undef _ rfl rfl (fun _ _ _ h => h)
    · have e4 := valsE_get (hp 4 (by decide)) rfl
      simp only [e4] at hK ⊢
      rw [if_neg (by intro hh; exact absurd (show false = true from hh) (by decide))]
      exact hK undef _ rfl rfl (fun _ _ _ h => h)
    · have e4 := valsE_get (hp 4 (by decide)) rfl
      simp only [e4] at hK ⊢
      rw [if_neg (by intro hh; exact absurd (show false = true from hh) (by decide))]
      exact hK undef _ rfl rfl (fun _ _ _ h => h)
    · have e4 := valsE_get (hp 4 (by decide)) rfl
      simp only [e4] at hK ⊢
      rw [if_neg (by intro hh; exact absurd (show false = true from hh) (by decide))]
      exact hK undef _ rfl rfl (fun _ _ _ h => h)
    · have e4 := valsE_get (hp 4 (by decide)) rfl
      simp only [e4] at hK ⊢
      rw [if_neg (by intro hh; exact absurd (show false = true from hh) (by decide))]
      exact hK undef _ rfl rfl (fun _ _ _ h => h)
    · have e4 := valsE_get (hp 4 (by decide)) rfl
      simp only [e4] at hK ⊢
      rw [if_neg (by intro hh; exact absurd (show false = true from hh) (by decide))]
      exact hK undef _ rfl rfl (fun _ _ _ h => h)
    · have e4 := valsE_get (hp 4 (by decide)) rfl
      simp only [e4] at hK ⊢
      rw [if_neg (by intro hh; exact absurd (show false = true from hh) (by decide))]
      exact hK undef _ rfl rfl (fun _ _ _ h => h)
    · have e4 := valsE_get (hp 4 (by decide)) rfl
      simp only [e4] at hK ⊢
      rw [if_neg (by intro hh; exact absurd (show false = true from hh) (by decide))]
      exact hK undef _ rfl rfl (fun _ _ _ h => h)
    · have e4 := valsE_get (hp 4 (by decide)) rfl
      simp only [e4] at hK ⊢
      rw [if_neg (by intro hh; exact absurd (show false = true from hh) (by decide))]
      exact hK undef _ rfl rfl (fun _ _ _ h => h)
    · have e4 := valsE_get (hp 4 (by decide)) rfl
      simp only [e4] at hK ⊢
      rw [if_neg (by intro hh; exact absurd (show false = true from hh) (by decide))]
      exact hK undef _ rfl rfl (fun _ _ _ h => h)
    · have e4 := valsE_get (hp 4 (by decide)) rfl
      simp only [e4] at hK ⊢
      rw [if_neg (by intro hh; exact absurd (show false = true from hh) (by decide))]
      exact hK undef _ rfl rfl (fun _ _ _ h => h)
    · have e4 := valsE_get (hp 4 (by decide)) rfl
      simp only [e4] at hK ⊢
      rw [if_neg (by intro hh; exact absurd (show false = true from hh) (by decide))]
      exact hK undef _ rfl rfl (fun _ _ _ h => h)
    · have e4 := valsE_get (hp 4 (by decide)) rfl
      simp only [e4] at hK ⊢
      rw [if_neg (by intro hh; exact absurd (show false = true from hh) (by decide))]
      exact hK undef _ rfl rfl (fun _ _ _ h => h)
    · have e4 := valsE_get (hp 4 (by decide)) rfl
      have e29 := valsE_get (hp 29 (by decide)) rfl
      simp only [e4, e29] at hK ⊢
      rw [if_pos (by rfl)]
      go_simp
      exact hK _ _ rfl rfl (fun _ _ _ h => h)
    · have e30 := valsE_get (hp 30 (by decide)) rfl
      simp only [e30] at hK ⊢
      rw [if_pos (by rfl)]
      go_simp
      exact hK _ _ rfl rfl (fun _ _ _ h => h)

end Go.Proofs.Ytjhkadffaephmab

/-
  table.Table.
-/
namespace Go.Proofs.Ytjhkadffaephmab
set_option maxRecDepth 100000
open Go.RowKit

theorem calls_table1 (args : Array Value) (W : World) : (callFunc 115 args).run Try.prog W = .ok (.enter 115 args) W := by rfl

set_option maxHeartbeats 4000000 in
theorem table1_any (n : NetM) (x m : Mat) (i j N bn bx bm : Nat) (w : World) (h : n.In w.heap.size w) (hx : x.In w.heap.size w) (hm : m.In w.heap.size w) (hck : n.net.check = 0) (hN : n.nodes = N) (hi : i < N) (hj : j < N) (hix : n.net.Is x.t) (him : n.net.Is m.t) (hmr : m.t.Z i j = n.net.round x.t.Z i j)
    (cn : Blk w bn n.cells 41) (cx : w.cell? ⟨bx, 0, none⟩ = some x.val) (lx : bx < w.heap.size) (cm : w.cell? ⟨bm, 0, none⟩ = some m.val) (lm : bm < w.heap.size) :
    Calls Try.prog 115 #[.int .i64 i, .int .i64 j, .pointer (some ⟨bm, 0, none⟩), .pointer (some ⟨bn, 0, none⟩), .pointer (some ⟨bx, 0, none⟩)] w fun e w' => e = .returned (.int .i64 (n.net.next x.t.Z i j)) ∧ Below w.heap.size w w' := by
  have g := Net.good_of_check hck
  have hs0 : 2 ≤ n.a.size := g.law.good.lo
  have hs1 : n.a.size ≤ 24 := g.law.good.hi
  have hNN : n.net.N = N := by show n.nodes.toNat = N; omega
  obtain ⟨W2, hW2⟩ : ∃ W2, W2 = (w.alloc (.cells #[.int .i64 (i : Int)] 3)).alloc (.cells #[.int .i64 (j : Int)] 3) := ⟨_, rfl⟩
  have hBa : Below w.heap.size w W2 := by rw [hW2]; exact ((Below.refl _ w).alloc (Nat.le_refl _) _).alloc (by simp) _
  have bI : Blk W2 w.heap.size #[.int .i64 (i : Int)] 3 := by rw [hW2]; exact (Blk.new w _ _).alloc _
  have bJ : Blk W2 (w.heap.size + 1) #[.int .i64 (j : Int)] 3 := by rw [hW2]; exact Blk.new' (by simp)
  have hml := him.len
  have hmw := him.wide i (by omega)
  obtain ⟨q1, q2, q3⟩ := (hm.below hBa (Nat.le_refl _)).at (r := i) (c := j) (by omega) (by omega)
  have ca : ∀ {a : Nat} {v : Value}, a < w.heap.size → w.cell? ⟨a, 0, none⟩ = some v → W2.cell? ⟨a, 0, none⟩ = some v := fun {a v} hl hv => by rw [hBa.cell (p := ⟨a, 0, none⟩) hl]; exact hv
  have ym := ca lm cm
  rw [Mat.val, q1] at ym
  have yi := bI.cell 0
  have yj := bJ.cell 0
  simp at yi yj
  have bN := cn.below hBa cn.lt
  have z0 := bN.cell 0
  have z1 := bN.cell 1
  have z2 := bN.cell 2
  have z3 := bN.cell 3
  have z4 := bN.cell 4
  simp [NetM.cells, Mat.val] at z0 z1 z2 z3 z4
  have r1 : (i : Int) < (m.t.len : Int) := by omega
  have r2 : (j : Int) < (m.t.L i : Int) := by omega
  have hBd : Below w.heap.size w W2.drew := below_drewN hBa 1
  have bId : Blk W2.drew w.heap.size #[.int .i64 (i : Int)] 3 := bI.below (below_drewN (Below.refl _ _) 1) bI.lt
  have bJd : Blk W2.drew (w.heap.size + 1) #[.int .i64 (j : Int)] 3 := bJ.below (below_drewN (Below.refl _ _) 1) bJ.lt
  have HLt : Hid (i ≠ j → m.t.Z i j ≠ n.a.size - 1 → Calls Try.prog 116 #[n.val, .func (.func 117) #[] #[.pointer (some ⟨w.heap.size, 0, none⟩), .pointer (some ⟨bn, 0, none⟩), .pointer (some ⟨bx, 0, none⟩), .pointer (some ⟨w.heap.size + 1, 0, none⟩), .pointer (some ⟨bm, 0, none⟩)]] W2.drew fun e w' => e = .returned (.int .i64 (n.net.next x.t.Z i j)) ∧ Below W2.drew.heap.size W2.drew w') := hide (fun he hv => by
    have hl := leastTo_any 117 #[.pointer (some ⟨w.heap.size, 0, none⟩), .pointer (some ⟨bn, 0, none⟩), .pointer (some ⟨bx, 0, none⟩), .pointer (some ⟨w.heap.size + 1, 0, none⟩), .pointer (some ⟨bm, 0, none⟩)] n (fun l => n.F l == (i : Int) && n.net.a.E.get (n.E l) (x.t.Z (n.T l).toNat j) == m.t.Z i j) W2.drew (h.grown hBd) hck calls_table11 (fun l W hl hb => by
      have hB : Below w.heap.size w W := hBd.trans (hb.mono hBd.size)
      have bI' := bId.below hb bId.lt
      have bJ' := bJd.below hb bJd.lt
      exact table11_any n x m l i j N w.heap.size bn bx (w.heap.size + 1) bm w.heap.size W hB.size (h.below hB (Nat.le_refl _)) (hx.below hB (Nat.le_refl _)) (hm.below hB (Nat.le_refl _)) hck hN hl hi hj hix him (by have := bI'.cell 0; simpa using this) bI'.lt (cn.below hB cn.lt) (by rw [hB.cell (p := ⟨bx, 0, none⟩) lx]; exact cx) (Nat.lt_of_lt_of_le lx hB.size) (by have := bJ'.cell 0; simpa using this) bJ'.lt (by rw [hB.cell (p := ⟨bm, 0, none⟩) lm]; exact cm) (Nat.lt_of_lt_of_le lm hB.size))
    have hnx := n.net.leastT_next hck hix.state (i := i) (j := j) (by omega) he (by rw [← hmr]; exact hv)
    rw [← hmr] at hnx
    have hnx' : leastT n.T (fun l => n.F l == (i : Int) && n.net.a.E.get (n.E l) (x.t.Z (n.T l).toNat j) == m.t.Z i j) n.ln = n.net.next x.t.Z i j := hnx
    rw [hnx'] at hl
    exact hl)
  have Hmv : Hid (m.t.Z i j = n.net.round x.t.Z i j) := hide hmr
  have HBa := hide hBa
  generalize m.t.Z i j = mv at *
  simp only [NetM.val, NetM.cells, Mat.val, hN] at HLt
  rw [hW2] at HLt HBa yi yj ym z0 z1 z2 z3 z4 q2 q3
  clear hck g hNN h hx hm hix him hml hmw hmr q1 ca bI bJ bId bJd bN hBa hBd hW2 cx cm cn
  by_cases he : i = j
  · have h' : ((i : Int) == (j : Int)) = true := by simp [he]
    have Hfin : Hid (n.net.next x.t.Z i j = -1) := hide (n.net.next_none (Or.inl he))
    clear he
    go_enter Try.func115, Try.ntmps115
    go_wp2
    refine wp_region_only (fun W => W = ((w.alloc (.cells #[.int .i64 (i : Int)] 3)).alloc (.cells #[.int .i64 (j : Int)] 3)).drew) (valsE [.int .i64 i, .int .i64 j, .bool true, .bool true, undef, undef, undef, undef, undef, undef, undef, undef, undef, undef, undef, undef, .bool true]) (by kernel_rfl) (by kernel_rfl) (by kernel_rfl) rfl ⟨?_, ?_, ?_, ?_, ?_, ?_, ?_, ?_, ?_, ?_, ?_, ?_, ?_, ?_, ?_, ?_, ?_, trivial⟩ ?_
    rotate_right
    · intro t W hG hE
      have e16 := valsE_get (hE 16 (by decide)) rfl
      subst hG
      clear hE
      simp only [fill, Act.put, List.setIfInBounds_toArray, List.set_cons_zero, List.set_cons_succ, e16]
      clear e16
      go_wp2
      go_ret
      exact ⟨by rw [Hfin.out]; rfl, below_drewN HBa.out 1⟩
    all_goals intro t W hG hp K hK
    all_goals subst hG
    all_goals simp only [fill, Act.put, List.setIfInBounds_toArray, List.set_cons_zero, List.set_cons_succ] at hK ⊢
    · rw [if_pos (by rfl)]
      go_simp
      exact hK _ _ rfl rfl (fun _ _ _ h => h)
    · rw [if_pos (by rfl)]
      go_simp
      exact hK _ _ rfl rfl (fun _ _ _ h => h)
    · have e0 := valsE_get (hp 0 (by decide)) rfl
      have e1 := valsE_get (hp 1 (by decide)) rfl
      simp only [e0, e1] at hK ⊢
      rw [if_pos (by rfl)]
      go_simp
      exact hK _ _ rfl rfl (fun _ _ _ h => h)
    · have e2 := valsE_get (hp 2 (by decide)) rfl
      simp only [e2] at hK ⊢
      rw [if_pos (by rfl)]
      go_simp
      exact hK _ _ rfl rfl (fun _ _ _ h => h)
    · have e3 := valsE_get (hp 3 (by decide)) rfl
      simp only [e3] at hK ⊢
      rw [if_neg (by intro hh; exact absurd (show false = true from hh) (by decide))]
      exact hK undef _ rfl rfl (fun _ _ _ h => h)
    · have e3 := valsE_get (hp 3 (by decide)) rfl
      simp only [e3] at hK ⊢
      rw [if_neg (by intro hh; exact absurd (show false = true from hh) (by decide))]
      exact hK undef _ rfl rfl (fun _ _ _ h => h)
    · have e3 := valsE_get (hp 3 (by decide)) rfl
      simp only [e3] at hK ⊢
      rw [if_neg (by intro hh; exact absurd (show false = true from hh) (by decide))]
      exact hK undef _ rfl rfl (fun _ _ _ h => h)
    · have e3 := valsE_get (hp 3 (by decide)) rfl
      simp only [e3] at hK ⊢
      rw [if_neg (by intro hh; exact absurd (show false = true from hh) (by decide))]
      exact hK undef _ rfl rfl (fun _ _ _ h => h)
    · have e3 := valsE_get (hp 3 (by decide)) rfl
      simp only [e3] at hK ⊢
      rw [if_neg (by intro hh; exact absurd (show false = true from hh) (by decide))]
      exact hK undef _ rfl rfl (fun _ _ _ h => h)
    · have e3 := valsE_get (hp 3 (by decide)) rfl
      simp only [e3] at hK ⊢
      rw [if_neg (by intro hh; exact absurd (show false = true from hh) (by decide))]
      exact hK undef _ rfl rfl (fun _ _ _ h => h)
    · have e3 := valsE_get (hp 3 (by decide)) rfl
      simp only [e3] at hK ⊢
      rw [if_neg (by intro hh; exact absurd (show false = true from hh) (by decide))]
      exact hK undef _ rfl rfl (fun _ _ _ h => h)
    · have e3 := valsE_get (hp 3 (by decide)) rfl
      simp only [e3] at hK ⊢
      rw [if_neg (by intro hh; exact absurd (show false = true from hh) (by decide))]
      exact hK undef _ rfl rfl (fun _ _ _ h => h)
    · have e3 := valsE_get (hp 3 (by decide)) rfl
      simp only [e3] at hK ⊢
      rw [if_neg (by intro hh; exact absurd (show false = true from hh) (by decide))]
      exact hK undef _ rfl rfl (fun _ _ _ h => h)
    · have e3 := valsE_get (hp 3 (by decide)) rfl
      simp only [e3] at hK ⊢
      rw [if_neg (by intro hh; exact absurd (show false = true from hh) (by decide))]
      exact hK undef _ rfl rfl (fun _ _ _ h => h)
    · have e3 := valsE_get (hp 3 (by decide)) rfl
      simp only [e3] at hK ⊢
      rw [if_neg (by intro hh; exact absurd (show false = true from hh) (by decide))]
      exact hK undef _ rfl rfl (fun _ _ _ h => h)
    · have e3 := valsE_get (hp 3 (by decide)) rfl
      simp only [e3] at hK ⊢
      rw [if_neg (by intro hh; exact absurd (show false = true from hh) (by decide))]
      exact hK undef _ rfl rfl (fun _ _ _ h => h)
    · have e3 := valsE_get (hp 3 (by decide)) rfl
      have e15 := valsE_get (hp 15 (by decide)) rfl
      simp only [e3, e15] at hK ⊢
      rw [if_pos (by rfl)]
      go_simp
      exact hK _ _ rfl rfl (fun _ _ _ h => h)
  · have h' : ((i : Int) == (j : Int)) = false := by simp; omega
    go_enter Try.func115, Try.ntmps115
    go_wp2
    refine wp_region_only (fun W => W = ((w.alloc (.cells #[.int .i64 (i : Int)] 3)).alloc (.cells #[.int .i64 (j : Int)] 3)).drew) (valsE [.int .i64 i, .int .i64 j, .bool false, .bool false, .slice (some ⟨m.gb, m.go, none⟩) m.t.len m.cap, .int .i64 i, .pointer (some ⟨m.gb, m.go + i, none⟩), .slice (some ⟨m.RB i, m.RO i, none⟩) (m.t.L i) (m.C i), .int .i64 j, .pointer (some ⟨m.RB i, m.RO i + j, none⟩), .int .i64 mv, .pointer (some ⟨bn, 0, none⟩), .pointer (some ⟨bn, 0, none⟩), .int .i64 n.a.size, .int .i64 (n.a.size - 1), .bool (mv == n.a.size - 1), .bool (mv == n.a.size - 1)]) (by kernel_rfl) (by kernel_rfl) (by kernel_rfl) rfl ⟨?_, ?_, ?_, ?_, ?_, ?_, ?_, ?_, ?_, ?_, ?_, ?_, ?_, ?_, ?_, ?_, ?_, trivial⟩ ?_
    rotate_right
    · intro t W hG hE
      have e16 := valsE_get (hE 16 (by decide)) rfl
      subst hG
      clear hE
      simp only [fill, Act.put, List.setIfInBounds_toArray, List.set_cons_zero, List.set_cons_succ, e16]
      clear e16
      by_cases hv : mv = n.a.size - 1
      · have hv' : (mv == n.a.size - 1) = true := by simp [hv]
        have Hfin : Hid (n.net.next x.t.Z i j = -1) := hide (n.net.next_none (Or.inr (by rw [← Hmv.out]; exact hv)))
        rw [hv']
        clear hv hv'
        go_wp2
        go_ret
        exact ⟨by rw [Hfin.out]; rfl, below_drewN HBa.out 1⟩
      · have hv' : (mv == n.a.size - 1) = false := by simp [hv]
        have HL := hide (HLt.out he hv)
        rw [hv']
        clear hv hv' HLt
        go_wp2_with fail
        go_at_call 116
        refine HL.out.mono ?_
        rintro e w2 ⟨rfl, hb2⟩
        have HB2 := hide ((below_drewN HBa.out 1).trans (hb2.mono (below_drewN HBa.out 1).size))
        clear hb2 HL
        go_wp2
        go_ret
        exact ⟨rfl, HB2.out⟩
    all_goals intro t W hG hp K hK
    all_goals subst hG
    all_goals simp only [fill, Act.put, List.setIfInBounds_toArray, List.set_cons_zero, List.set_cons_succ] at hK ⊢
    · rw [if_pos (by rfl)]
      go_simp
      exact hK _ _ rfl rfl (fun _ _ _ h => h)
    · rw [if_pos (by rfl)]
      go_simp
      exact hK _ _ rfl rfl (fun _ _ _ h => h)
    · have e0 := valsE_get (hp 0 (by decide)) rfl
      have e1 := valsE_get (hp 1 (by decide)) rfl
      simp only [e0, e1] at hK ⊢
      rw [if_pos (by rfl)]
      go_simp
      exact hK _ _ rfl rfl (fun _ _ _ h => h)
    · have e2 := valsE_get (hp 2 (by decide)) rfl
      simp only [e2] at hK ⊢
      rw [if_pos (by rfl)]
      go_simp
      exact hK _ _ rfl rfl (fun _ _ _ h => h)
    · have e3 := valsE_get (hp 3 (by decide)) rfl
      simp only [e3] at hK ⊢
      rw [if_pos (by rfl)]
      go_simp
      exact hK _ _ rfl rfl (fun _ _ _ h => h)
    · have e3 := valsE_get (hp 3 (by decide)) rfl
      simp only [e3] at hK ⊢
      rw [if_pos (by rfl)]
      go_simp
      exact hK _ _ rfl rfl (fun _ _ _ h => h)
    · have e3 := valsE_get (hp 3 (by decide)) rfl
      have e4 := valsE_get (hp 4 (by decide)) rfl
      have e5 := valsE_get (hp 5 (by decide)) rfl
      simp only [e3, e4, e5] at hK ⊢
      rw [if_pos (by rfl)]
      go_simp
      exact hK _ _ rfl rfl (fun _ _ _ h => h)
    · have e3 := valsE_get (hp 3 (by decide)) rfl
      have e6 := valsE_get (hp 6 (by decide)) rfl
      simp only [e3, e6] at hK ⊢
      rw [if_pos (by rfl)]
      go_simp
      exact hK _ _ rfl rfl (fun _ _ _ h => h)
    · have e3 := valsE_get (hp 3 (by decide)) rfl
      simp only [e3] at hK ⊢
      rw [if_pos (by rfl)]
      go_simp
      exact hK _ _ rfl rfl (fun _ _ _ h => h)
    · have e3 := valsE_get (hp 3 (by decide)) rfl
      have e7 := valsE_get (hp 7 (by decide)) rfl
      have e8 := valsE_get (hp 8 (by decide)) rfl
      simp only [e3, e7, e8] at hK ⊢
      rw [if_pos (by rfl)]
      go_simp
      exact hK _ _ rfl rfl (fun _ _ _ h => h)
    · have e3 := valsE_get (hp 3 (by decide)) rfl
      have e9 := valsE_get (hp 9 (by decide)) rfl
      simp only [e3, e9] at hK ⊢
      rw [if_pos (by rfl)]
      go_simp
      exact hK _ _ rfl rfl (fun _ _ _ h => h)
    · have e3 := valsE_get (hp 3 (by decide)) rfl
      simp only [e3] at hK ⊢
      rw [if_pos (by rfl)]
      go_simp
      exact hK _ _ rfl rfl (fun _ _ _ h => h)
    · have e3 := valsE_get (hp 3 (by decide)) rfl
      have e11 := valsE_get (hp 11 (by decide)) rfl
      simp only [e3, e11] at hK ⊢
      rw [if_pos (by rfl)]
      go_simp
      exact hK _ _ rfl rfl (fun _ _ _ h => h)
    · have e3 := valsE_get (hp 3 (by decide)) rfl
      have e12 := valsE_get (hp 12 (by decide)) rfl
      simp only [e3, e12] at hK ⊢
      rw [if_pos (by rfl)]
      go_simp
      exact hK _ _ rfl rfl (fun _ _ _ h => h)
    · have e3 := valsE_get (hp 3 (by decide)) rfl
      have e13 := valsE_get (hp 13 (by decide)) rfl
      have hws : IntKind.i64.wrap (n.a.size - 1) = n.a.size - 1 := by simp [IntKind.wrap, IntKind.bits, IntKind.signed]; omega
      simp only [e3, e13] at hK ⊢
      rw [if_pos (by rfl)]
      go_simp
      exact hK _ _ rfl rfl (fun _ _ _ h => h)
    · have e3 := valsE_get (hp 3 (by decide)) rfl
      have e10 := valsE_get (hp 10 (by decide)) rfl
      have e14 := valsE_get (hp 14 (by decide)) rfl
      simp only [e3, e10, e14] at hK ⊢
      rw [if_pos (by rfl)]
      go_simp
      exact hK _ _ rfl rfl (fun _ _ _ h => h)
    · have e3 := valsE_get (hp 3 (by decide)) rfl
      have e15 := valsE_get (hp 15 (by decide)) rfl
      simp only [e3, e15] at hK ⊢
      rw [if_pos (by rfl)]
      go_simp
      exact hK _ _ rfl rfl (fun _ _ _ h => h)

end Go.Proofs.Ytjhkadffaephmab

/-
  table.Table.
-/
namespace Go.Proofs.Ytjhkadffaephmab
set_option maxRecDepth 100000
open Go.RowKit

set_option maxHeartbeats 4000000 in
theorem tableTable_ok (n : NetM) (x : Mat) (w : World) (h : n.In w.heap.size w) (hx : x.In w.heap.size w) (hf : n.net.fit x.t = 0) :
    Calls Try.prog 50 #[n.val, x.val] w fun e w' => (∃ t : Mat, e = .returned (.tuple #[t.val, .int .i64 0]) ∧ Fresh n.net.N w.heap.size (n.net.next x.t.Z) t w') ∧ Below w.heap.size w w' := by
  obtain ⟨hc, his⟩ := Net.is_of_fit hf
  have g := Net.good_of_check hc
  have lo := g.lo
  have hi6 := g.hi
  obtain ⟨N, hN⟩ : ∃ N : Nat, n.nodes = N := ⟨n.nodes.toNat, by have : n.net.nodes = n.nodes := rfl; omega⟩
  have hNN : n.net.N = N := by show n.nodes.toNat = N; omega
  have hN6 : N ≤ 6 := by have : n.net.nodes = n.nodes := rfl; omega
  have hN1 : 1 ≤ N := by have : n.net.nodes = n.nodes := rfl; omega
  obtain ⟨W1, hW1⟩ : ∃ W1, W1 = (w.alloc (.cells n.cells 41)).alloc (.cells #[x.val] 36) := ⟨_, rfl⟩
  have hB1 : Below w.heap.size w W1 := by rw [hW1]; exact ((Below.refl _ w).alloc (Nat.le_refl _) _).alloc (by simp) _
  have bn : Blk W1 w.heap.size n.cells 41 := by rw [hW1]; exact (Blk.new w _ _).alloc _
  have bx : Blk W1 (w.heap.size + 1) #[x.val] 36 := by rw [hW1]; exact Blk.new' (by simp)
  have hcells : n.cells = #[.int .i64 n.a.size, .slice n.a.B.ga n.a.B.t.len n.a.B.cap, .slice n.a.E.ga n.a.E.t.len n.a.E.cap, .int .i64 N, .slice n.la n.ln n.lc] := by simp only [NetM.cells, Mat.val, hN]
  have HR := hide (netRound_ok n x W1 (h.grown hB1) (hx.grown hB1) hf)
  have Hst := hide (his.state.round g)
  have HT := hide (fun (i j : Nat) (m : Mat) (bm : Nat) (W : World) (hW : Below W1.heap.size W1 W) (hm : Fresh n.net.N W1.heap.size (n.net.round x.t.Z) m W) (hi : i < N) (hj : j < N) (cm : W.cell? ⟨bm, 0, none⟩ = some m.val) (lm : bm < W.heap.size) =>
    table1_any n x m i j N w.heap.size (w.heap.size + 1) bm W ((h.grown hB1).grown hW) ((hx.grown hB1).grown hW) hm.2.1 hc hN hi hj his (hm.is Hst.out) (by rw [hm.1]) (bn.below hW bn.lt) (by have := (bx.below hW bx.lt).cell 0; simpa using this) (Nat.lt_of_lt_of_le bx.lt hW.size) cm lm)
  have HB1 := hide hB1
  have Hbn := hide bn
  have HNN := hide hNN
  rw [hNN] at HR
  rw [hcells] at hW1
  have Hcells := hide hcells
  rw [hW1] at HR
  simp only [NetM.val, hcells, Mat.val] at HR hW1 ⊢
  have b0 := bn.cell 0
  have b1 := bn.cell 1
  have b2 := bn.cell 2
  have b3 := bn.cell 3
  have b4 := bn.cell 4
  have x0 := bx.cell 0
  simp [hcells, Mat.val] at b0 b1 b2 b3 b4 x0
  rw [hW1] at b0 b1 b2 b3 b4 x0
  clear h hx hf hc his g lo hi6 hN hNN hB1 bn bx hcells
  go_enter Try.func50, Try.ntmps50
  go_wp2_with fail
  go_at_call 114
  refine HR.out.mono ?_
  rintro e w1 ⟨⟨m, rfl, hm⟩, hb1⟩
  rw [← hW1] at hb1
  rw [← hW1] at hm
  have hbm := hb1.alloc hb1.size (.cells #[m.val] 36)
  have bN := Hbn.out.below hbm Hbn.out.lt
  have c3 := bN.cell 3
  simp [Hcells.out] at c3
  have hm' : Fresh n.net.N W1.heap.size (n.net.round x.t.Z) m w1 := by rw [HNN.out]; exact hm
  have HFl := hide (filled_any 115 #[.pointer (some ⟨w1.heap.size, 0, none⟩), .pointer (some ⟨w.heap.size, 0, none⟩), .pointer (some ⟨w.heap.size + 1, 0, none⟩)] N (n.net.next x.t.Z) (w1.alloc (.cells #[m.val] 36)) hN1 hN6 calls_table1 (fun i j W hi hj hb => by
    have hbW := (hm'.grown ((Below.refl _ w1).alloc (Nat.le_refl _) (.cells #[m.val] 36))).grown hb
    have bM := (Blk.new w1 #[m.val] 36).below hb (by simp)
    exact HT.out i j m w1.heap.size W (hbm.trans (hb.mono hbm.size)) hbW hi hj (by have := bM.cell 0; simpa using this) bM.lt))
  have HBm := hide (HB1.out.trans (hbm.mono HB1.out.size))
  clear HR hb1 hm hm' hbm bN HT b0 b1 b2 b3 b4 x0 hW1
  simp only [Mat.val] at HFl c3
  go_wp2_with fail
  go_at_call 82
  refine HFl.out.mono ?_
  rintro e w2 ⟨⟨t, rfl, ht⟩, hb2⟩
  have HBw := hide (HBm.out.trans (hb2.mono HBm.out.size))
  have HF : Hid (Fresh n.net.N w.heap.size (n.net.next x.t.Z) t w2) := hide (by rw [HNN.out]; exact ⟨ht.1, ht.2.1, ht.2.2.mono HBm.out.size⟩)
  clear ht hb2 HFl
  go_wp2
  refine bodyPost_ret (v := .tuple #[.slice t.ga t.t.len t.cap, .int .i64 0]) (by simp [results, Try.results50, go_sem]) rfl ⟨⟨t, rfl, HF.out⟩, HBw.out⟩

set_option maxHeartbeats 1000000 in
theorem tableTable_bad (n : NetM) (x : Mat) (w : World) (h : n.In w.heap.size w) (hx : x.In w.heap.size w) (hf : n.net.fit x.t ≠ 0) :
    Calls Try.prog 50 #[n.val, x.val] w fun e w' => e = .returned (.tuple #[.slice none 0 0, .int .i64 (n.net.fit x.t)]) ∧ Below w.heap.size w w' := by
  obtain ⟨W1, hW1⟩ : ∃ W1, W1 = (w.alloc (.cells n.cells 41)).alloc (.cells #[x.val] 36) := ⟨_, rfl⟩
  have hB1 : Below w.heap.size w W1 := by rw [hW1]; exact ((Below.refl _ w).alloc (Nat.le_refl _) _).alloc (by simp) _
  have bn : Blk W1 w.heap.size n.cells 41 := by rw [hW1]; exact (Blk.new w _ _).alloc _
  have bx : Blk W1 (w.heap.size + 1) #[x.val] 36 := by rw [hW1]; exact Blk.new' (by simp)
  have HR := hide (netRound_bad n x W1 (h.grown hB1) (hx.grown hB1) hf)
  have HB1 := hide hB1
  have b0 := bn.cell 0
  have b1 := bn.cell 1
  have b2 := bn.cell 2
  have b3 := bn.cell 3
  have b4 := bn.cell 4
  have x0 := bx.cell 0
  simp [NetM.cells, Mat.val] at b0 b1 b2 b3 b4 x0
  generalize n.net.fit x.t = ft at *
  have hf' : (ft != 0) = true := by simp [hf]
  rw [hW1] at HR HB1 b0 b1 b2 b3 b4 x0
  simp only [NetM.val, NetM.cells, Mat.val] at HR HB1 b0 b1 b2 b3 b4 x0 ⊢
  clear h hx hf hB1 bn bx hW1
  go_enter Try.func50, Try.ntmps50
  go_wp2_with fail
  go_at_call 114
  refine HR.out.mono ?_
  rintro e w1 ⟨rfl, hb1⟩
  have hb2 := HB1.out.trans (hb1.mono HB1.out.size)
  have HB := hide (hb2.alloc hb2.size (.cells #[.slice none 0 0] 36))
  clear HR hb1 hb2 HB1
  go_wp2
  exact bodyPost_ret (v := .tuple #[.slice none 0 0, .int .i64 ft]) (by simp [results, Try.results50, go_sem]) rfl ⟨rfl, HB.out⟩

end Go.Proofs.Ytjhkadffaephmab
