/-
  Our own texts, bundled: a claim holds few files.
-/
import Derived.Test.YtjhkadffaephmabBundleEH
import Derived.Test.YtjhkadffaephmabBundleEE
import Derived.Test.YtjhkadffaephmabBundleBG
/-
  Squares of routes with paths: what is wrong of one; where they lie.
-/
namespace Go.Proofs.Ytjhkadffaephmab
set_option maxRecDepth 100000
open Go.RowKit

/-- Rows of routes. -/
structure RTab where
  len : Nat
  L : Nat → Nat
  Z : Nat → Nat → Rt
def RTab.wide (t : RTab) (s : Int) : Bool := (List.range t.len).all fun r => (t.L r : Int) == s
theorem RTab.wide_iff (t : RTab) (s : Int) : t.wide s = true ↔ ∀ r, r < t.len → (t.L r : Int) = s := by simp [RTab.wide]
theorem RTab.wide_false {t : RTab} {s : Int} {r : Nat} (h : r < t.len) (hn : (t.L r : Int) ≠ s) : t.wide s = false := by
  cases e : t.wide s with
  | false => rfl
  | true => exact absurd ((t.wide_iff s).1 e r h) hn

/-- May it be the route of i to j? -/
def Net.leadsR (n : Net) (r : Rt) (i j : Int) : Bool := n.begR r i && (!n.valid r || r.p.getLastD 0 == j)
def Net.fits (n : Net) (i j : Nat) (r : Rt) : Bool := n.right r && n.leadsR r i j
def Net.fitsAll (n : Net) (t : RTab) : Bool := (List.range t.len).all fun i => (List.range (t.L i)).all fun j => n.fits i j (t.Z i j)
def Net.pfit (n : Net) (t : RTab) : Int := if n.check ≠ 0 then n.check else if (t.len : Int) ≠ n.nodes ∨ t.wide n.nodes = false then 1 else if n.fitsAll t = true then 0 else 4

theorem Net.fits_iff {n : Net} {i j : Nat} {r : Rt} : n.fits i j r = true ↔ n.PAt r i j := by
  unfold Net.fits Net.leadsR Net.begR
  rw [Bool.and_eq_true, Net.right_iff]
  by_cases hv : n.valid r = true
  · have hw : r.w ≠ n.a.size - 1 := by unfold Net.valid at hv; simpa using hv
    rw [hv]
    simp only [Bool.not_true, Bool.false_or, Bool.and_eq_true, beq_iff_eq]
    constructor
    · rintro ⟨h1, h2, h3⟩
      have hne := h1.ne hw
      refine ⟨h1, fun _ => ?_, fun _ => ?_⟩
      · cases hp : r.p with
        | nil => exact absurd hp hne
        | cons a l => rw [hp] at h2; simpa using h2
      · rw [List.getLastD_eq_getLast?] at h3
        cases hl : r.p.getLast? with
        | none => exact absurd (List.getLast?_eq_none_iff.1 hl) hne
        | some v => rw [hl] at h3; simpa using h3
    · intro h
      refine ⟨h.right, ?_, ?_⟩
      · have := h.head hw
        cases hp : r.p with
        | nil => rw [hp] at this; cases this
        | cons a l => rw [hp] at this; simpa using this
      · rw [List.getLastD_eq_getLast?, h.last hw]; rfl
  · have hw : r.w = n.a.size - 1 := by unfold Net.valid at hv; simpa using hv
    have hv' : n.valid r = false := by simpa using hv
    rw [hv']
    simp only [Bool.not_false, Bool.true_or, Bool.and_true, and_true]
    exact ⟨fun h => ⟨h, fun c => absurd hw c, fun c => absurd hw c⟩, fun h => h.right⟩

theorem Net.fitsAll_iff {n : Net} {t : RTab} : n.fitsAll t = true ↔ ∀ i, i < t.len → ∀ j, j < t.L i → n.PAt (t.Z i j) i j := by
  simp [Net.fitsAll, Net.fits_iff]
theorem Net.fitsAll_false {n : Net} {t : RTab} {i j : Nat} (hi : i < t.len) (hj : j < t.L i) (h : n.fits i j (t.Z i j) = false) : n.fitsAll t = false := by
  cases e : n.fitsAll t with
  | false => rfl
  | true =>
    have := Net.fitsAll_iff.1 e i hi j hj
    rw [Net.fits_iff.2 this] at h
    cases h

/-- It is a state of routes of the net. -/
structure Net.PIs (n : Net) (t : RTab) : Prop where
  len : t.len = n.N
  wide : ∀ r, r < n.N → t.L r = n.N
  state : n.PState t.Z
theorem Net.pis_of_fit {n : Net} {t : RTab} (h : n.pfit t = 0) : n.check = 0 ∧ n.PIs t := by
  unfold Net.pfit at h
  by_cases hc : n.check = 0
  · rw [if_neg (by simp [hc])] at h
    have g := Net.good_of_check hc
    have lo := g.lo
    split at h
    · cases h
    · next h1 =>
      have hl : (t.len : Int) = n.nodes := Classical.byContradiction fun e => h1 (Or.inl e)
      have hw : t.wide n.nodes = true := by
        cases e : t.wide n.nodes with
        | true => rfl
        | false => exact absurd (Or.inr e) h1
      have hw2 := (t.wide_iff _).1 hw
      split at h
      · next h2 =>
        have h3 := Net.fitsAll_iff.1 h2
        have e0 : t.len = n.N := by unfold Net.N; omega
        have e1 : ∀ r, r < n.N → t.L r = n.N := fun r hr => by have := hw2 r (by omega); unfold Net.N; omega
        exact ⟨hc, e0, e1, fun i j hi hj => h3 i (by omega) j (by rw [e1 i hi]; exact hj)⟩
      · cases h
  · rw [if_pos (by simp [hc])] at h
    exact absurd h hc

/-- Are they the same? -/
def rowSame (l m : Nat) (f g : Nat → Rt) : Bool := (l == m) && (List.range l).all fun i => (f i).same (g i)
theorem rowSame_iff {l m : Nat} {f g : Nat → Rt} : rowSame l m f g = true ↔ l = m ∧ ∀ i, i < l → f i = g i := by simp [rowSame, Rt.same_iff]
theorem rowSame_false {l m : Nat} {f g : Nat → Rt} {i : Nat} (hi : i < l) (h : (f i).same (g i) = false) : rowSame l m f g = false := by
  cases e : rowSame l m f g with
  | false => rfl
  | true =>
    have := (rowSame_iff.1 e).2 i hi
    rw [Rt.same_iff.2 this] at h
    cases h
def RTab.same (s t : RTab) : Bool := (s.len == t.len) && (List.range s.len).all fun r => rowSame (s.L r) (t.L r) (s.Z r) (t.Z r)
theorem RTab.same_iff {s t : RTab} : s.same t = true ↔ s.len = t.len ∧ ∀ r, r < s.len → s.L r = t.L r ∧ ∀ c, c < s.L r → s.Z r c = t.Z r c := by simp [RTab.same, rowSame_iff]
theorem RTab.same_false {s t : RTab} {r : Nat} (hr : r < s.len) (h : rowSame (s.L r) (t.L r) (s.Z r) (t.Z r) = false) : s.same t = false := by
  cases e : s.same t with
  | false => rfl
  | true =>
    have := rowSame_iff.2 ((RTab.same_iff.1 e).2 r hr)
    rw [this] at h
    cases h
theorem RTab.same_true {s t : RTab} (hl : s.len = t.len) (h : ∀ r, r < s.len → rowSame (s.L r) (t.L r) (s.Z r) (t.Z r) = true) : s.same t = true := RTab.same_iff.2 ⟨hl, fun r hr => rowSame_iff.1 (h r hr)⟩

/-- Rows of routes where they lie. -/
structure RMat where
  ga : Option Addr
  gb : Nat
  go : Nat
  cap : Nat
  A : Nat → Option Addr
  C : Nat → Nat
  RB : Nat → Nat
  RO : Nat → Nat
  len : Nat
  L : Nat → Nat
  R : Nat → Nat → RtM
def RMat.val (m : RMat) : Value := .slice m.ga m.len m.cap
def RMat.t (m : RMat) : RTab := ⟨m.len, m.L, fun r c => (m.R r c).rt⟩
structure RMat.In (m : RMat) (n : Nat) (w : World) : Prop where
  ga : 0 < m.len → m.ga = some ⟨m.gb, m.go, none⟩
  gb : 0 < m.len → m.gb < n
  row : ∀ r, r < m.len → w.cell? ⟨m.gb, m.go + r, none⟩ = some (.slice (m.A r) (m.L r) (m.C r))
  addr : ∀ r, r < m.len → 0 < m.L r → m.A r = some ⟨m.RB r, m.RO r, none⟩ ∧ m.RB r < n
  wt : ∀ r, r < m.len → ∀ c, c < m.L r → w.cell? ⟨m.RB r, m.RO r + c * 2, none⟩ = some (.int .i64 (m.R r c).w)
  pt : ∀ r, r < m.len → ∀ c, c < m.L r → w.cell? ⟨m.RB r, m.RO r + c * 2 + 1, none⟩ = some (.slice (m.R r c).pa (m.R r c).l (m.R r c).q)
  rt : ∀ r, r < m.len → ∀ c, c < m.L r → (m.R r c).In n w
  tall : m.len ≤ maxLen
  lens : ∀ r, r < m.len → m.L r ≤ maxLen
theorem RMat.In.below {m : RMat} {n k : Nat} {w w' : World} (h : m.In n w) (hb : Below k w w') (hk : n ≤ k) : m.In n w' where
  ga := h.ga
  gb := h.gb
  row := fun r hr => by rw [hb.cell (p := ⟨m.gb, m.go + r, none⟩) (Nat.lt_of_lt_of_le (h.gb (by omega)) hk)]; exact h.row r hr
  addr := h.addr
  wt := fun r hr c hc => by rw [hb.cell (p := ⟨m.RB r, m.RO r + c * 2, none⟩) (Nat.lt_of_lt_of_le (h.addr r hr (by omega)).2 hk)]; exact h.wt r hr c hc
  pt := fun r hr c hc => by rw [hb.cell (p := ⟨m.RB r, m.RO r + c * 2 + 1, none⟩) (Nat.lt_of_lt_of_le (h.addr r hr (by omega)).2 hk)]; exact h.pt r hr c hc
  rt := fun r hr c hc => (h.rt r hr c hc).below hb hk
  tall := h.tall
  lens := h.lens
theorem RMat.In.mono {m : RMat} {n k : Nat} {w : World} (h : m.In n w) (hk : n ≤ k) : m.In k w where
  ga := h.ga
  gb := fun h0 => Nat.lt_of_lt_of_le (h.gb h0) hk
  row := h.row
  addr := fun r hr h0 => ⟨(h.addr r hr h0).1, Nat.lt_of_lt_of_le (h.addr r hr h0).2 hk⟩
  wt := h.wt
  pt := h.pt
  rt := fun r hr c hc => ⟨(h.rt r hr c hc).ints, fun h0 => Nat.lt_of_lt_of_le ((h.rt r hr c hc).blk h0) hk⟩
  tall := h.tall
  lens := h.lens
theorem RMat.In.grown {m : RMat} {w w' : World} (h : m.In w.heap.size w) (hb : Below w.heap.size w w') : m.In w'.heap.size w' := (h.below hb (Nat.le_refl _)).mono hb.size

/-- No path of it is longer than its room. -/
def RMat.Caps (m : RMat) : Prop := ∀ r, r < m.len → ∀ c, c < m.L r → (m.R r c).l ≤ (m.R r c).q ∧ (m.R r c).q ≤ maxLen

/-- What stands in it. -/
theorem RMat.In.at {m : RMat} {n : Nat} {w : World} (h : m.In n w) {r c : Nat} (hr : r < m.len) (hc : c < m.L r) :
    m.ga = some ⟨m.gb, m.go, none⟩ ∧ w.cell? ⟨m.gb, m.go + r, none⟩ = some (.slice (some ⟨m.RB r, m.RO r, none⟩) (m.L r) (m.C r)) ∧ w.cell? ⟨m.RB r, m.RO r + c * 2, none⟩ = some (.int .i64 (m.R r c).w) ∧ w.cell? ⟨m.RB r, m.RO r + c * 2 + 1, none⟩ = some (.slice (m.R r c).pa (m.R r c).l (m.R r c).q) := by
  refine ⟨h.ga (by omega), ?_, h.wt r hr c hc, h.pt r hr c hc⟩
  rw [← (h.addr r hr (by omega)).1]
  exact h.row r hr

/-- A square that was made. -/
structure FreshR (N : Nat) (Z : Nat → Nat → Rt) (m : RMat) (W : World) : Prop where
  len : m.len = N
  wide : ∀ r, r < N → m.L r = N
  same : ∀ i j, i < N → j < N → (m.R i j).rt = Z i j
  mem : m.In W.heap.size W
theorem FreshR.grown {N : Nat} {Z : Nat → Nat → Rt} {m : RMat} {W W' : World} (h : FreshR N Z m W) (hb : Below W.heap.size W W') : FreshR N Z m W' := ⟨h.len, h.wide, h.same, h.mem.grown hb⟩
theorem Net.PAt.congr {n : Net} {x y : Nat → Nat → Rt} (h : n.PState x) (e : ∀ i j, i < n.N → j < n.N → y i j = x i j) : n.PState y := fun i j hi hj => by rw [e i j hi hj]; exact h i j hi hj
theorem FreshR.is {n : Net} {Z : Nat → Nat → Rt} {m : RMat} {W : World} (h : FreshR n.N Z m W) (hs : n.PState Z) : n.PIs m.t := ⟨h.len, h.wide, Net.PAt.congr hs h.same⟩
theorem FreshR.psame {n : Net} {Y Z : Nat → Nat → Rt} {m k : RMat} {W W' : World} (h : FreshR n.N Y m W) (h' : FreshR n.N Z k W') : m.t.same k.t = n.psame Y Z := by
  rw [Bool.eq_iff_iff, RTab.same_iff, Net.psame_iff]
  have e1 : m.t.len = n.N := h.len
  have e2 : k.t.len = n.N := h'.len
  constructor
  · intro hh i j hi hj
    have := (hh.2 i (by omega)).2 j (by show j < m.L i; rw [h.wide i hi]; exact hj)
    rw [← h.same i j hi hj, ← h'.same i j hi hj]
    exact this
  · intro hh
    refine ⟨by omega, fun r hr => ⟨?_, fun c hc => ?_⟩⟩
    · show m.L r = k.L r
      rw [h.wide r (by omega), h'.wide r (by omega)]
    · have hc' : c < n.N := by rw [← h.wide r (by omega)]; exact hc
      show (m.R r c).rt = (k.R r c).rt
      rw [h.same r c (by omega) hc', h'.same r c (by omega) hc']
      exact hh r c (by omega) hc'

end Go.Proofs.Ytjhkadffaephmab

/-
  path.own, path.leads.
-/
namespace Go.Proofs.Ytjhkadffaephmab
set_option maxRecDepth 100000
open Go.RowKit

set_option maxHeartbeats 1000000 in
theorem ownP_any (n : NetM) (i j : Nat) (w : World) (h2 : 2 ≤ n.a.size) (h24 : n.a.size ≤ 24) :
    Calls Try.prog 199 #[n.val, .int .i64 i, .int .i64 j] w fun e w' => (∃ r : RtM, e = .returned r.val ∧ r.Made w.heap.size (n.net.ownR i j) w') ∧ Below w.heap.size w w' := by
  obtain ⟨W1, hW1⟩ : ∃ W1, W1 = (w.alloc (.cells n.cells 41)).alloc (.cells #[.int .i64 0, .slice none 0 0] 71) := ⟨_, rfl⟩
  have hB1 : Below w.heap.size w W1 := by rw [hW1]; exact ((Below.refl _ w).alloc (Nat.le_refl _) _).alloc (by simp) _
  have b0 : Blk W1 w.heap.size n.cells 41 := by rw [hW1]; exact (Blk.new w _ _).alloc _
  have b1 : Blk W1 (w.heap.size + 1) #[.int .i64 0, .slice none 0 0] 71 := by rw [hW1]; exact Blk.new' (by simp)
  have hs1 : W1.heap.size = w.heap.size + 1 + 1 := by rw [hW1]; simp
  have Hd : Hid (n.net.ownR i j = if i = j then ⟨0, [(i : Int)]⟩ else n.net.inv) := hide rfl
  by_cases e : i = j
  · have Hx : Hid (n.net.ownR i j = ⟨0, [(i : Int)]⟩) := hide (by rw [Hd.out, if_pos e])
    have he : ((i : Int) == (j : Int)) = true := by simp [e]
    obtain ⟨W2, hW2⟩ : ∃ W2, W2 = ((w.alloc (.cells n.cells 41)).alloc (.cells #[.int .i64 0, .slice (some ⟨w.heap.size + 1 + 1, 0, none⟩) 1 1] 71)).alloc (.cells #[.int .i64 (i : Int)] 3) := ⟨_, rfl⟩
    have hB2 : Below w.heap.size w W2 := by rw [hW2]; exact (((Below.refl _ w).alloc (Nat.le_refl _) _).alloc (by simp) _).alloc (by simp; omega) _
    have b2 : Blk W2 (w.heap.size + 1) #[.int .i64 0, .slice (some ⟨w.heap.size + 1 + 1, 0, none⟩) 1 1] 71 := by rw [hW2]; exact (Blk.new' (by simp)).alloc _
    have bi3 : Blk W2 (w.heap.size + 1 + 1) #[.int .i64 (i : Int)] 3 := by rw [hW2]; exact Blk.new' (by simp)
    have e0 := b2.cell 0
    have e1 := b2.cell 1
    simp at e0 e1
    have HB := hide hB2
    have HM : Hid ((RtM.mk 0 (some ⟨w.heap.size + 1 + 1, 0, none⟩) 1 1 (w.heap.size + 1 + 1) 0 (fun _ => i)).Made w.heap.size ⟨0, [(i : Int)]⟩ W2) := hide
      ⟨⟨⟨fun _ => rfl, fun k hk => by
        have : k = 0 := by have : k < 1 := hk; omega
        subst this
        exact bi3.cell 0, by show 1 ≤ maxLen; unfold maxLen; omega⟩, fun _ => bi3.lt⟩, fun _ => by show w.heap.size ≤ w.heap.size + 1 + 1; omega, rfl⟩
    rw [hW2] at e0 e1 HB HM
    simp only [NetM.val, NetM.cells, Mat.val] at e0 e1 HB HM ⊢
    clear hB1 b0 b1 b2 bi3 hW1 hs1 Hd e hW2 hB2
    go_enter Try.func199, Try.ntmps199
    go_wp2
    exact bodyPost_ret (v := .agg #[.int .i64 0, .slice (some ⟨w.heap.size + 1 + 1, 0, none⟩) 1 1]) (by simp [results, Try.results199, go_sem]) rfl ⟨⟨_, rfl, by rw [Hx.out]; exact HM.out⟩, HB.out⟩
  · have Hx : Hid (n.net.ownR i j = n.net.inv) := hide (by rw [Hd.out, if_neg e])
    have he : ((i : Int) == (j : Int)) = false := by simp; omega
    have HI := hide (invalid_any n W1 h2 h24)
    have x0 := b0.cell 0
    have x1 := b0.cell 1
    have x2 := b0.cell 2
    have x3 := b0.cell 3
    have x4 := b0.cell 4
    simp [NetM.cells, Mat.val] at x0 x1 x2 x3 x4
    have HB1 := hide hB1
    have Hb1 := hide b1
    have HW1 := hide hW1
    rw [hW1] at HI x0 x1 x2 x3 x4
    simp only [NetM.val, NetM.cells, Mat.val] at HW1 HI x0 x1 x2 x3 x4 ⊢
    clear hB1 b0 b1 hW1 hs1 Hd e
    go_enter Try.func199, Try.ntmps199
    go_wp2_with fail
    go_at_call 162
    refine HI.out.mono ?_
    rw [← HW1.out]
    rintro e w2 ⟨rfl, hb2⟩
    have b2 := Hb1.out.below hb2 Hb1.out.lt
    have o0 := b2.cell 0
    have o1 := b2.cell 1
    have of0 := b2.frozen 0
    have of1 := b2.frozen 1
    have b3 := b2.set2 (.int .i64 (n.a.size - 1)) (.slice none 0 0)
    have e0 := b3.cell 0
    have e1 := b3.cell 1
    simp at o0 o1 e0 e1
    have HB := hide ((((HB1.out.trans (hb2.mono HB1.out.size))).setCell (p := ⟨w.heap.size + 1, 0, none⟩) (by show w.heap.size ≤ w.heap.size + 1; omega) (.int .i64 (n.a.size - 1))).setCell (p := ⟨w.heap.size + 1, 1, none⟩) (by show w.heap.size ≤ w.heap.size + 1; omega) (.slice none 0 0))
    clear b2 b3 hb2 HI HW1 HB1 Hb1 x0 x1 x2 x3 x4
    go_wp2
    exact bodyPost_ret (v := .agg #[.int .i64 (n.a.size - 1), .slice none 0 0]) (by simp [results, Try.results199, go_sem, e0, e1]) rfl ⟨⟨RtM.mk (n.a.size - 1) none 0 0 0 0 (fun _ => 0), rfl, by rw [Hx.out]; exact made_inv⟩, HB.out⟩

theorem listOf_last {l : Nat} (f : Nat → Int) : (listOf (l + 1) f).getLastD 0 = f l := by
  rw [listOf_succ, List.getLastD_eq_getLast?]
  simp
theorem Net.Right.some {n : Net} {r : RtM} (h : n.Right r.rt) (hv : n.valid r.rt = true) : 0 < r.l := by
  have h1 := h.ne (by unfold Net.valid at hv; simpa using hv)
  have e2 : r.rt.p = listOf r.l r.f := rfl
  rw [e2] at h1
  apply Classical.byContradiction
  intro hc
  exact h1 (by rw [show r.l = 0 by omega]; rfl)
theorem Net.begR_at {n : Net} {r : RtM} (i : Int) (hv : n.valid r.rt = true → 0 < r.l) : n.begR r.rt i = (!n.valid r.rt || r.f 0 == i) := by
  unfold Net.begR
  cases h : n.valid r.rt with
  | false => rfl
  | true =>
    obtain ⟨l', hl'⟩ : ∃ l', r.l = l' + 1 := ⟨r.l - 1, by have := hv h; omega⟩
    have e2 : r.rt.p = listOf r.l r.f := rfl
    rw [e2, hl', listOf_cons]
    rfl

set_option maxHeartbeats 1000000 in
theorem leads_any (n : NetM) (r : RtM) (i j : Int) (w : World) (h : r.In w.heap.size w) (h2 : 2 ≤ n.a.size) (h24 : n.a.size ≤ 24) (hv : n.net.valid r.rt = true → 0 < r.l) :
    Calls Try.prog 110 #[n.val, r.val, .int .i64 i, .int .i64 j] w fun e w' => e = .returned (.bool (n.net.leadsR r.rt i j)) ∧ Below w.heap.size w w' := by
  have hlen := h.ints.len
  unfold maxLen at hlen
  obtain ⟨W1, hW1⟩ : ∃ W1, W1 = (w.alloc (.cells n.cells 41)).alloc (.cells r.cells 71) := ⟨_, rfl⟩
  have hB1 : Below w.heap.size w W1 := by rw [hW1]; exact ((Below.refl _ w).alloc (Nat.le_refl _) _).alloc (by simp) _
  have bn : Blk W1 w.heap.size n.cells 41 := by rw [hW1]; exact (Blk.new w _ _).alloc _
  have br : Blk W1 (w.heap.size + 1) r.cells 71 := by rw [hW1]; exact Blk.new' (by simp)
  have HBe := hide (begins_any n r i W1 (h.grown hB1) h2 h24 hv)
  have HV := hide (fun W => valid_any n r W h2 h24)
  have Hbg := hide (n.net.begR_at i hv)
  have Hld : Hid (n.net.leadsR r.rt i j = (n.net.begR r.rt i && (!n.net.valid r.rt || r.rt.p.getLastD 0 == j))) := hide rfl
  have Hvl := hide hv
  have HR := hide h
  rw [← Hbg.out] at HBe
  generalize n.net.leadsR r.rt i j = ld at *
  generalize n.net.begR r.rt i = bg at *
  have HB1 := hide hB1
  have Hbn := hide bn
  have Hbr := hide br
  have HW1 := hide hW1
  have x0 := bn.cell 0
  have x1 := bn.cell 1
  have x2 := bn.cell 2
  have x3 := bn.cell 3
  have x4 := bn.cell 4
  have y0 := br.cell 0
  have y1 := br.cell 1
  simp [NetM.cells, RtM.cells, Mat.val] at x0 x1 x2 x3 x4 y0 y1
  rw [hW1] at HBe x0 x1 x2 x3 x4 y0 y1
  generalize hvd : n.net.valid r.rt = vd at *
  simp only [NetM.val, NetM.cells, Mat.val, RtM.val, RtM.cells] at HW1 HBe HV x0 x1 x2 x3 x4 y0 y1 ⊢
  clear hB1 bn br hW1 hv h Hbg hvd
  go_enter Try.func110, Try.ntmps110
  go_wp2_with fail
  go_at_call 95
  refine HBe.out.mono ?_
  rw [← HW1.out]
  rintro e w2 ⟨rfl, hb2⟩
  have hB2 := HB1.out.trans (hb2.mono HB1.out.size)
  have bn2 := Hbn.out.below hb2 Hbn.out.lt
  have br2 := Hbr.out.below hb2 Hbr.out.lt
  clear x0 x1 x2 x3 x4 y0 y1 HBe HW1
  have HB2 := hide hB2
  cases bg with
  | false =>
    have Hr : Hid (ld = false) := hide (by rw [Hld.out]; rfl)
    clear Hld hb2 bn2 br2 hB2
    go_wp2
    go_ret
    exact ⟨by rw [Hr.out]; rfl, HB2.out⟩
  | true =>
    have HVx := hide (HV.out w2)
    have x0 := bn2.cell 0
    have x1 := bn2.cell 1
    have x2 := bn2.cell 2
    have x3 := bn2.cell 3
    have x4 := bn2.cell 4
    have y0 := br2.cell 0
    have y1 := br2.cell 1
    simp [NetM.cells, RtM.cells, Mat.val] at x0 x1 x2 x3 x4 y0 y1
    have Hbr2 := hide br2
    clear hb2 bn2 br2 hB2
    go_wp2_with fail
    go_at_call 158
    refine HVx.out.mono ?_
    rintro e w3 ⟨rfl, hb3⟩
    have HB3 := hide (HB2.out.trans (hb3.mono HB2.out.size))
    have br3 := Hbr2.out.below hb3 Hbr2.out.lt
    clear x0 x1 x2 x3 x4 y0 y1 HVx
    cases vd with
    | false =>
      have Hr : Hid (ld = true) := hide (by rw [Hld.out]; rfl)
      clear Hld hb3 br3
      go_wp2
      go_ret
      exact ⟨by rw [Hr.out]; rfl, HB3.out⟩
    | true =>
      have hl0 := Hvl.out (by trivial)
      obtain ⟨l', hl'⟩ : ∃ l', r.l = l' + 1 := ⟨r.l - 1, by omega⟩
      have hI := HR.out.below HB3.out (Nat.le_refl _)
      have hpa := hI.ints.addr hl0
      have hc := hI.ints.cell l' (by omega)
      have y1 := br3.cell 1
      simp [RtM.cells] at y1
      rw [hpa, hl'] at y1
      have Hr : Hid (ld = (r.f l' == j)) := hide (by
        rw [Hld.out]
        have e2 : r.rt.p = listOf r.l r.f := rfl
        rw [e2, hl', listOf_last]
        rfl)
      have hli : ((l' + 1 : Nat) : Int) - 1 = (l' : Int) := by omega
      have hlt : (l' : Int) < ((l' + 1 : Nat) : Int) := by omega
      rw [hl'] at hlen
      clear Hld hb3 br3 hI hl' hl0 hpa
      go_wp2
      go_ret
      exact ⟨by rw [Hr.out]; rfl, HB3.out⟩

end Go.Proofs.Ytjhkadffaephmab

/-
  Rows of routes that are made one by one; state.Filled at routes.
-/
namespace Go.Proofs.Ytjhkadffaephmab
set_option maxRecDepth 100000
open Go.RowKit

theorem Try.infoRoute : (Try.prog.info? 71).map (fun i => (i.zero, i.size, i.bytes)) = some (some (.agg #[.int .i64 0, .slice none 0 0]), 2, 32) := by kernel_rfl
theorem Try.infoRoutes : (Try.prog.info? 94).map (fun i => (i.zero, i.size, i.bytes)) = some (some (.slice none 0 0), 1, 24) := by kernel_rfl

/-- Of a row's block k routes stand. -/
def RowR (W : World) (b N k : Nat) (R : Nat → RtM) : Prop :=
  ∃ cs : Array Value, Blk W b cs 71 ∧ cs.size = N * 2 ∧ ∀ c, c < k → cs[c * 2]? = some (.int .i64 (R c).w) ∧ cs[c * 2 + 1]? = some (.slice (R c).pa (R c).l (R c).q)
theorem RowR.lt {W : World} {b N k : Nat} {R : Nat → RtM} (h : RowR W b N k R) : b < W.heap.size := by
  obtain ⟨cs, h1, _, _⟩ := h
  exact h1.lt
theorem RowR.below {W W' : World} {b N k : Nat} {R : Nat → RtM} (h : RowR W b N k R) (hb : Below W.heap.size W W') : RowR W' b N k R := by
  obtain ⟨cs, h1, h2, h3⟩ := h
  exact ⟨cs, h1.below hb h1.lt, h2, h3⟩
theorem RowR.other {W : World} {b N k C : Nat} {R : Nat → RtM} (h : RowR W b N k R) (hne : b ≠ C) (i : Nat) (v : Value) : RowR (W.setCell ⟨C, i, none⟩ v) b N k R := by
  obtain ⟨cs, h1, h2, h3⟩ := h
  exact ⟨cs, h1.other hne i v, h2, h3⟩
theorem RowR.wt {W : World} {b N k : Nat} {R : Nat → RtM} (h : RowR W b N k R) {c : Nat} (hc : c < k) : W.cell? ⟨b, c * 2, none⟩ = some (.int .i64 (R c).w) ∧ W.cell? ⟨b, c * 2 + 1, none⟩ = some (.slice (R c).pa (R c).l (R c).q) := by
  obtain ⟨cs, h1, _, h3⟩ := h
  rw [h1.cell, h1.cell]
  exact h3 c hc
theorem RowR.old {W : World} {b N k : Nat} {R : Nat → RtM} (h : RowR W b N k R) {c : Nat} (hc : c < N) : (∃ u, W.cell? ⟨b, c * 2, none⟩ = some u) ∧ (∃ u, W.cell? ⟨b, c * 2 + 1, none⟩ = some u) ∧ W.frozen? ⟨b, c * 2, none⟩ = false ∧ W.frozen? ⟨b, c * 2 + 1, none⟩ = false := by
  obtain ⟨cs, h1, h2, _⟩ := h
  refine ⟨⟨cs[c * 2]'(by omega), ?_⟩, ⟨cs[c * 2 + 1]'(by omega), ?_⟩, h1.frozen _, h1.frozen _⟩
  · rw [h1.cell]; exact Array.getElem?_eq_getElem _
  · rw [h1.cell]; exact Array.getElem?_eq_getElem _
/-- R, but r at k. -/
def updR (R : Nat → RtM) (k : Nat) (r : RtM) : Nat → RtM := fun c => if c = k then r else R c
theorem updR_same (R : Nat → RtM) (k : Nat) (r : RtM) : updR R k r k = r := by simp [updR]
theorem updR_other (R : Nat → RtM) {k c : Nat} (r : RtM) (h : c ≠ k) : updR R k r c = R c := by simp [updR, h]
theorem RowR.put {W : World} {b N k : Nat} {R : Nat → RtM} (h : RowR W b N k R) (hk : k < N) (r : RtM) :
    RowR ((W.setCell ⟨b, k * 2, none⟩ (.int .i64 r.w)).setCell ⟨b, k * 2 + 1, none⟩ (.slice r.pa r.l r.q)) b N (k + 1) (updR R k r) := by
  obtain ⟨cs, h1, h2, h3⟩ := h
  refine ⟨_, (h1.set (k * 2) (.int .i64 r.w)).set (k * 2 + 1) (.slice r.pa r.l r.q), by simp [h2], fun c hc => ?_⟩
  by_cases e : c = k
  · subst e
    rw [updR_same]
    constructor
    · rw [Array.getElem?_setIfInBounds_ne (by omega), Array.getElem?_setIfInBounds_self_of_lt (by omega)]
    · rw [Array.getElem?_setIfInBounds_self_of_lt (by simp; omega)]
  · rw [updR_other R r e, Array.getElem?_setIfInBounds_ne (by omega), Array.getElem?_setIfInBounds_ne (by omega), Array.getElem?_setIfInBounds_ne (by omega), Array.getElem?_setIfInBounds_ne (by omega)]
    exact h3 c (by omega)
theorem RowR.new (W : World) (cs : Array Value) (N : Nat) (R : Nat → RtM) (h : cs.size = N * 2) : RowR (W.alloc (.cells cs 71)) W.heap.size N 0 R := ⟨cs, Blk.new W _ _, h, fun _ hc => absurd hc (Nat.not_lt_zero _)⟩

/-- A route that stands, and lies in neither of these blocks. -/
structure RtOff (r : RtM) (x : Rt) (ob gb : Nat) (W : World) : Prop where
  mem : r.In W.heap.size W
  same : r.rt = x
  off : 0 < r.l → r.b ≠ ob ∧ r.b ≠ gb
theorem RtOff.below {r : RtM} {x : Rt} {ob gb : Nat} {W W' : World} (h : RtOff r x ob gb W) (hb : Below W.heap.size W W') : RtOff r x ob gb W' := ⟨h.mem.grown hb, h.same, h.off⟩
theorem RtM.In.off {r : RtM} {W : World} (h : r.In W.heap.size W) {C : Nat} (hne : 0 < r.l → r.b ≠ C) (i : Nat) (v : Value) : r.In (W.setCell ⟨C, i, none⟩ v).heap.size (W.setCell ⟨C, i, none⟩ v) :=
  ⟨⟨h.ints.addr, fun j hj => by rw [cell_other (hne (by omega))]; exact h.ints.cell j hj, h.ints.len⟩, fun h0 => by have := h.blk h0; simpa [World.setCell] using this⟩
theorem RtOff.put {r : RtM} {x : Rt} {ob gb : Nat} {W : World} (h : RtOff r x ob gb W) (i : Nat) (v : Value) : RtOff r x ob gb (W.setCell ⟨gb, i, none⟩ v) := ⟨h.mem.off (fun h0 => (h.off h0).2) i v, h.same, h.off⟩
theorem RtOff.putO {r : RtM} {x : Rt} {ob gb : Nat} {W : World} (h : RtOff r x ob gb W) (i : Nat) (v : Value) : RtOff r x ob gb (W.setCell ⟨ob, i, none⟩ v) := ⟨h.mem.off (fun h0 => (h.off h0).1) i v, h.same, h.off⟩

/-- i rows of routes are made. -/
structure MdRI (lo ob : Nat) (g c : Nat → Nat) (N : Nat) (Z : Nat → Nat → Rt) (R : Nat → Nat → RtM) (i : Nat) (W : World) : Prop where
  out : Blk W ob (outG g c N N i) 94
  base : lo ≤ ob
  rows : ∀ r, r < i → g r ≠ ob ∧ RowR W (g r) N N (R r) ∧ ∀ j, j < N → RtOff (R r j) (Z r j) ob ob W
/-- i rows of routes are made, and k of the next. -/
structure MdRJ (lo ob : Nat) (g c : Nat → Nat) (N : Nat) (Z : Nat → Nat → Rt) (R : Nat → Nat → RtM) (i k : Nat) (W : World) : Prop where
  out : Blk W ob (outG g c N N (i + 1)) 94
  base : lo ≤ ob
  rows : ∀ r, r < i → g r ≠ ob ∧ g r ≠ g i ∧ RowR W (g r) N N (R r) ∧ ∀ j, j < N → RtOff (R r j) (Z r j) ob (g i) W
  cur : RowR W (g i) N k (R i)
  curs : ∀ j, j < k → RtOff (R i j) (Z i j) ob (g i) W
  own : lo ≤ g i ∧ g i ≠ ob
  room : c i = N

theorem MdRI.start (w : World) (lo N : Nat) (Z : Nat → Nat → Rt) (R : Nat → Nat → RtM) (h : lo ≤ w.heap.size) : MdRI lo w.heap.size (fun _ => 0) (fun _ => 0) N Z R 0 (w.alloc (.cells (madeCells #[.slice none 0 0] N) 94)) where
  out := by rw [outG_zero (fun _ => 0) (fun _ => 0) N N]; exact Blk.new w _ _
  base := h
  rows := fun r hr => absurd hr (Nat.not_lt_zero _)
theorem MdRI.row {lo ob : Nat} {g c : Nat → Nat} {N : Nat} {Z : Nat → Nat → Rt} {R : Nat → Nat → RtM} {i : Nat} {W : World} (h : MdRI lo ob g c N Z R i W) (hlo : lo ≤ W.heap.size) (cs : Array Value) (hcs : cs.size = N * 2) :
    MdRJ lo ob (updN g i W.heap.size) (updN c i N) N Z R i 0 ((W.alloc (.cells cs 71)).setCell ⟨ob, i, none⟩ (.slice (some ⟨W.heap.size, 0, none⟩) N N)) where
  out := by have := (h.out.alloc (.cells cs 71)).set i (.slice (some ⟨W.heap.size, 0, none⟩) N N); rw [outG_set] at this; exact this
  base := h.base
  rows := fun r hr => by
    rw [updN_other g _ (by omega), updN_same]
    obtain ⟨h1, h2, h3⟩ := h.rows r hr
    have hb : Below W.heap.size W (W.alloc (.cells cs 71)) := (Below.refl _ W).alloc (Nat.le_refl _) _
    refine ⟨h1, by have := h2.lt; omega, (h2.below hb).other h1 _ _, fun j hj => ?_⟩
    have q := (h3 j hj).below hb
    have := (h3 j hj).mem.blk
    exact (RtOff.mk q.mem q.same (fun h0 => ⟨(q.off h0).1, by have := this h0; omega⟩) : RtOff (R r j) (Z r j) ob W.heap.size _).putO i _
  cur := by
    rw [updN_same]
    exact (RowR.new W cs N (R i) hcs).other (by have := h.out.lt; omega) _ _
  curs := fun j hj => absurd hj (Nat.not_lt_zero _)
  own := by rw [updN_same]; exact ⟨hlo, by have := h.out.lt; omega⟩
  room := updN_same _ _ _
theorem MdRJ.below {lo ob : Nat} {g c : Nat → Nat} {N i k : Nat} {Z : Nat → Nat → Rt} {R : Nat → Nat → RtM} {W W' : World} (h : MdRJ lo ob g c N Z R i k W) (hb : Below W.heap.size W W') : MdRJ lo ob g c N Z R i k W' where
  out := h.out.below hb h.out.lt
  base := h.base
  rows := fun r hr => by
    obtain ⟨h1, h2, h3, h4⟩ := h.rows r hr
    exact ⟨h1, h2, h3.below hb, fun j hj => (h4 j hj).below hb⟩
  cur := h.cur.below hb
  curs := fun j hj => (h.curs j hj).below hb
  own := h.own
  room := h.room
/-- R, but r at i, k. -/
def updRR (R : Nat → Nat → RtM) (i k : Nat) (r : RtM) : Nat → Nat → RtM := fun a => if a = i then updR (R i) k r else R a
theorem updRR_row (R : Nat → Nat → RtM) (i k : Nat) (r : RtM) : updRR R i k r i = updR (R i) k r := by simp [updRR]
theorem updRR_other (R : Nat → Nat → RtM) {i a : Nat} (k : Nat) (r : RtM) (h : a ≠ i) : updRR R i k r a = R a := by simp [updRR, h]
theorem MdRJ.put {lo ob : Nat} {g c : Nat → Nat} {N i k : Nat} {Z : Nat → Nat → Rt} {R : Nat → Nat → RtM} {W : World} (h : MdRJ lo ob g c N Z R i k W) (hk : k < N) {r : RtM} (hr : RtOff r (Z i k) ob (g i) W) :
    MdRJ lo ob g c N Z (updRR R i k r) i (k + 1) ((W.setCell ⟨g i, k * 2, none⟩ (.int .i64 r.w)).setCell ⟨g i, k * 2 + 1, none⟩ (.slice r.pa r.l r.q)) where
  out := (h.out.other (Ne.symm h.own.2) _ _).other (Ne.symm h.own.2) _ _
  base := h.base
  rows := fun q hq => by
    obtain ⟨h1, h2, h3, h4⟩ := h.rows q hq
    rw [updRR_other R k r (by omega)]
    exact ⟨h1, h2, (h3.other h2 _ _).other h2 _ _, fun j hj => ((h4 j hj).put _ _).put _ _⟩
  cur := by rw [updRR_row]; exact h.cur.put hk r
  curs := fun j hj => by
    rw [updRR_row]
    by_cases e : j = k
    · subst e; rw [updR_same]; exact (hr.put _ _).put _ _
    · rw [updR_other (R i) r e]; exact ((h.curs j (by omega)).put _ _).put _ _
  own := h.own
  room := h.room
theorem MdRJ.done {lo ob : Nat} {g c : Nat → Nat} {N i : Nat} {Z : Nat → Nat → Rt} {R : Nat → Nat → RtM} {W : World} (h : MdRJ lo ob g c N Z R i N W) : MdRI lo ob g c N Z R (i + 1) W where
  out := h.out
  base := h.base
  rows := fun r hr => by
    by_cases e : r = i
    · subst e
      exact ⟨h.own.2, h.cur, fun j hj => ⟨(h.curs j hj).mem, (h.curs j hj).same, fun h0 => ⟨((h.curs j hj).off h0).1, ((h.curs j hj).off h0).1⟩⟩⟩
    · obtain ⟨h1, h2, h3, h4⟩ := h.rows r (by omega)
      exact ⟨h1, h3, fun j hj => ⟨(h4 j hj).mem, (h4 j hj).same, fun h0 => ⟨((h4 j hj).off h0).1, ((h4 j hj).off h0).1⟩⟩⟩
theorem MdRI.mat {lo ob : Nat} {g c : Nat → Nat} {N : Nat} {Z : Nat → Nat → Rt} {R : Nat → Nat → RtM} {W : World} (h : MdRI lo ob g c N Z R N W) (hn : N ≤ 100) :
    ∃ m : RMat, Value.slice (some ⟨ob, 0, none⟩) N N = m.val ∧ FreshR N Z m W := by
  refine ⟨⟨some ⟨ob, 0, none⟩, ob, 0, N, fun r => some ⟨g r, 0, none⟩, c, g, fun _ => 0, N, fun _ => N, R⟩, rfl, rfl, fun _ _ => rfl, fun i j hi hj => ((h.rows i hi).2.2 j hj).same, ⟨fun _ => rfl, fun _ => h.out.lt, ?_, ?_, ?_, ?_, ?_, ?_, ?_⟩⟩
  · intro r hr
    have hr' : r < N := hr
    show W.cell? ⟨ob, 0 + r, none⟩ = _
    rw [h.out.cell (0 + r), Nat.zero_add, outG_get hr', if_pos hr']
  · exact fun r hr _ => ⟨rfl, (h.rows r hr).2.1.lt⟩
  · intro r hr j hj
    show W.cell? ⟨g r, 0 + j * 2, none⟩ = _
    rw [Nat.zero_add]
    exact ((h.rows r hr).2.1.wt hj).1
  · intro r hr j hj
    show W.cell? ⟨g r, 0 + j * 2 + 1, none⟩ = _
    rw [Nat.zero_add]
    exact ((h.rows r hr).2.1.wt hj).2
  · exact fun r hr j hj => ((h.rows r hr).2.2 j hj).mem
  · show N ≤ maxLen; unfold maxLen; omega
  · intro r _; show N ≤ maxLen; unfold maxLen; omega

/-- What stands all through a round of the inner loop. -/
structure FilI (w1 : World) (N : Nat) (Z : Nat → Nat → Rt) (g c : Nat → Nat) (i k : Nat) (W : World) : Prop where
  below : Below w1.heap.size w1 W
  made : ∃ R, MdRJ w1.heap.size w1.heap.size g c N Z R i k W
theorem FilI.keep {w1 : World} {N : Nat} {Z : Nat → Nat → Rt} {g c : Nat → Nat} {i k : Nat} {W W' : World} (h : FilI w1 N Z g c i k W) (hb : Below W.heap.size W W') : FilI w1 N Z g c i k W' := by
  obtain ⟨R, hR⟩ := h.made
  exact ⟨h.below.trans (hb.mono h.below.size), R, hR.below hb⟩
/-- What the operations leave. -/
def filE (vs : List Value) (x : Rt) (ob gb : Nat) (k : Nat) (v : Value) (W : World) : Prop :=
  match k with
  | 8 => ∃ r : RtM, v = r.val ∧ RtOff r x ob gb W
  | k => vs[k]? = some v
theorem filE.keep {vs : List Value} {x : Rt} {ob gb : Nat} {W W' : World} (hb : Below W.heap.size W W') (k : Nat) (v : Value) (h : filE vs x ob gb k v W) : filE vs x ob gb k v W' := by
  unfold filE at *
  split at h
  · obtain ⟨r, h1, h2⟩ := h
    exact ⟨r, h1, h2.below hb⟩
  · exact h
theorem filE_get {vs : List Value} {x : Rt} {ob gb k : Nat} {v u : Value} {W : World} (h : filE vs x ob gb k v W) (hk : k ≠ 8) (hu : vs[k]? = some u) : v = u := by
  unfold filE at h
  split at h
  · exact absurd rfl hk
  · rw [hu] at h
    injection h with h
    exact h.symm
theorem FilI.two {w1 : World} {N : Nat} {Z : Nat → Nat → Rt} {g c : Nat → Nat} {i k : Nat} {W : World} (h : FilI w1 N Z g c i k W) : w1.heap.size < W.heap.size ∧ g i < W.heap.size ∧ w1.heap.size ≤ g i := by
  obtain ⟨R, hR⟩ := h.made
  exact ⟨hR.out.lt, hR.cur.lt, hR.own.1⟩

end Go.Proofs.Ytjhkadffaephmab

/-
  slices.ContainsFunc at rows of routes; state.Square at routes.
-/
namespace Go.Proofs.Ytjhkadffaephmab
set_option maxRecDepth 100000
open Go.RowKit

set_option maxHeartbeats 1000000 in
theorem indexFunc_rrows (fid : Nat) (cap : Array Value) (x : RMat) (p : Nat → Bool) (w : World) (h : x.In w.heap.size w)
    (hcf : ∀ (args : Array Value) (W : World), (callFunc fid args).run Try.prog W = .ok (.enter fid args) W)
    (hat : ∀ (i : Nat) (W : World), i < x.len → Below w.heap.size w W → Calls Try.prog fid (#[.slice (x.A i) (x.L i) (x.C i)] ++ cap) W fun e w' => e = .returned (.bool (p i)) ∧ Below W.heap.size W w') :
    Calls Try.prog 200 #[x.val, .func (.func fid) #[] cap] w fun e w' => (∃ r : Int, e = .returned (.int .i64 r) ∧ decide (0 ≤ r) = (List.range x.len).any p) ∧ Below w.heap.size w w' := by
  have hlen := h.tall
  unfold maxLen at hlen
  have HA := hide hat
  have H := hide h
  simp only [RMat.val]
  clear hat h
  go_enter Try.func200, Try.ntmps200
  go_wp2
  go_loopw [5, 8] (fun _ i wr => ∃ k : Nat, k ≤ x.len ∧ i = .int .i64 k ∧ Hid (∀ r, r < k → p r = false) ∧ Hid (Below w.heap.size w wr)) (fun _ i _ => x.len - (intOf i).toNat)
  case atStart => exact ⟨0, Nat.zero_le _, rfl, hide (fun r hr => absurd hr (Nat.not_lt_zero _)), hide (Below.refl _ _)⟩
  case round =>
    obtain ⟨k, hk, rfl, Hall, HB⟩ := hrel
    by_cases hlt : k < x.len
    · have ha := H.out.ga (by omega)
      have hc := (H.out.below HB.out (Nat.le_refl _)).row k hlt
      have hki : (k : Int) < (x.len : Int) := by omega
      have HC := hide (HA.out k wr hlt HB.out)
      by_cases hp : p k = true
      · rw [hp] at HC
        have Hw : Hid ((List.range x.len).any p = true) := hide (List.any_eq_true.2 ⟨k, List.mem_range.2 hlt, hp⟩)
        clear hp
        go_wp2_with fail
        refine HC.out.mono ?_
        rintro e w2 ⟨rfl, hb2⟩
        have HB2 := hide (HB.out.trans (hb2.mono HB.out.size))
        clear hb2
        go_wp2
        go_ret
        exact ⟨⟨(k : Int), rfl, by rw [Hw.out]; simp⟩, HB2.out⟩
      · have hpf : p k = false := by simpa using hp
        rw [hpf] at HC
        have Hpf := hide hpf
        clear hp hpf
        go_wp2_with fail
        refine HC.out.mono ?_
        rintro e w2 ⟨rfl, hb2⟩
        have HB2 := hide (HB.out.trans (hb2.mono HB.out.size))
        clear hb2
        have Hn : Hid (∀ r, r < k + 1 → p r = false) := hide (fun r hr => by
          by_cases e : r = k
          · subst e; exact Hpf.out
          · exact Hall.out r (by omega))
        go_wp2
        go_roundw
        case rel =>
          first
          | exact ⟨k + 1, by omega, by go_num, Hn, HB2⟩
          | ((try rw [← ha]); (repeat apply Exists.intro); refine ⟨?_, rfl⟩; exact ⟨k + 1, by omega, by go_num, Hn, HB2⟩)
        case measure => simp [intOf]; omega
    · have Hw : Hid ((List.range x.len).any p = false) := hide (by
        rw [List.any_eq_false]
        intro r hr
        rw [Hall.out r (by have := List.mem_range.1 hr; omega)]; decide)
      go_wp2
      go_ret
      exact ⟨⟨-1, rfl, by rw [Hw.out]; rfl⟩, HB.out⟩

set_option maxHeartbeats 400000 in
theorem containsFunc_rrows (fid : Nat) (cap : Array Value) (x : RMat) (p : Nat → Bool) (w : World) (h : x.In w.heap.size w)
    (hcf : ∀ (args : Array Value) (W : World), (callFunc fid args).run Try.prog W = .ok (.enter fid args) W)
    (hat : ∀ (i : Nat) (W : World), i < x.len → Below w.heap.size w W → Calls Try.prog fid (#[.slice (x.A i) (x.L i) (x.C i)] ++ cap) W fun e w' => e = .returned (.bool (p i)) ∧ Below W.heap.size W w') :
    Calls Try.prog 173 #[x.val, .func (.func fid) #[] cap] w fun e w' => e = .returned (.bool ((List.range x.len).any p)) ∧ Below w.heap.size w w' := by
  have HC := hide (indexFunc_rrows fid cap x p w h  hcf hat)
  simp only [RMat.val] at HC ⊢
  clear h hat hcf
  go_enter Try.func173, Try.ntmps173
  go_wp2_with fail
  go_at_call 200
  refine HC.out.mono ?_
  rintro e w1 ⟨⟨r, rfl, hr⟩, hb⟩
  have HB := hide hb
  have HR := hide hr
  clear hb hr
  go_wp2
  go_ret
  exact ⟨by rw [← HR.out]; rfl, HB.out⟩

theorem calls_squareR1 (args : Array Value) (W : World) : (callFunc 174 args).run Try.prog W = .ok (.enter 174 args) W := by rfl

set_option maxHeartbeats 400000 in
theorem squareR1_any (a : Option Addr) (l q bx : Nat) (s : Int) (w : World) (h : w.cell? ⟨bx, 0, none⟩ = some (.int .i64 s)) :
    Calls Try.prog 174 #[.slice a l q, .pointer (some ⟨bx, 0, none⟩)] w fun e w' => e = .returned (.bool ((l : Int) != s)) ∧ w' = w := by
  go_enter Try.func174, Try.ntmps174
  go_wp2
  go_ret
  exact ⟨rfl, rfl⟩

theorem rwide_any (t : RTab) (s : Int) : (!(List.range t.len).any fun r => (t.L r : Int) != s) = t.wide s := by
  unfold RTab.wide
  rw [List.all_eq_not_any_not]
  rfl

set_option maxHeartbeats 1000000 in
theorem squareR_any (m : RMat) (s : Int) (w : World) (h : m.In w.heap.size w) :
    Calls Try.prog 109 #[m.val, .int .i64 s] w fun e w' => e = .returned (.bool (((m.len : Int) == s) && m.t.wide s)) ∧ Below w.heap.size w w' := by
  have hBa : Below w.heap.size w (w.alloc (.cells #[.int .i64 s] 3)) := (Below.refl _ w).alloc (Nat.le_refl _) _
  have b0 := Blk.new w #[.int .i64 s] 3
  have HC := hide (containsFunc_rrows 174 #[.pointer (some ⟨w.heap.size, 0, none⟩)] m (fun r => (m.L r : Int) != s) _ (h.grown hBa) calls_squareR1 (fun i W hi hB => by
    refine (squareR1_any (m.A i) (m.L i) (m.C i) w.heap.size s W ((b0.below hB b0.lt).cell 0)).mono ?_
    rintro e w' ⟨rfl, rfl⟩
    exact ⟨rfl, Below.refl _ _⟩))
  have HBa := hide hBa
  have HI : Hid ((!(List.range m.len).any fun r => (m.L r : Int) != s) = m.t.wide s) := hide (rwide_any m.t s)
  simp only [RMat.val] at HC ⊢
  clear h hBa b0
  by_cases hl : (m.len : Int) = s
  · have hl' : ((m.len : Int) != s) = false := by simp [hl]
    have Hl2 : Hid (((m.len : Int) == s) = true) := hide (by simp [hl])
    clear hl
    go_enter Try.func109, Try.ntmps109
    go_wp2_with fail
    go_at_call 173
    refine HC.out.mono ?_
    rintro e w1 ⟨rfl, hb1⟩
    have HB := hide (HBa.out.trans (hb1.mono HBa.out.size))
    generalize hv : ((List.range m.len).any fun r => (m.L r : Int) != s) = v at HI ⊢
    clear hv hb1 HC
    go_wp2
    go_ret
    exact ⟨by rw [Hl2.out, ← HI.out]; rfl, HB.out⟩
  · have hl' : ((m.len : Int) != s) = true := by simp [hl]
    have Hl2 : Hid (((m.len : Int) == s) = false) := hide (by simp [hl])
    clear hl HC HI
    go_enter Try.func109, Try.ntmps109
    go_wp2
    go_ret
    exact ⟨by rw [Hl2.out]; rfl, HBa.out⟩

end Go.Proofs.Ytjhkadffaephmab

/-
  path.Fit.
-/
namespace Go.Proofs.Ytjhkadffaephmab
set_option maxRecDepth 100000
open Go.RowKit

set_option maxHeartbeats 4000000 in
theorem pathFit_any (n : NetM) (x : RMat) (w : World) (h : n.In w.heap.size w) (hx : x.In w.heap.size w) :
    Calls Try.prog 46 #[n.val, x.val] w fun e w' => e = .returned (.int .i64 (n.net.pfit x.t)) ∧ Below w.heap.size w w' := by
  have hlen := hx.tall
  unfold maxLen at hlen
  have hB0 : Below w.heap.size w (w.alloc (.cells n.cells 41)) := (Below.refl _ w).alloc (Nat.le_refl _) _
  have b0 := Blk.new w n.cells 41
  have HC := hide (netCheck_any n _ (h.grown hB0))
  have HSq := hide (fun W (hb : Below w.heap.size w W) => squareR_any x n.nodes W (hx.grown hb))
  have HRt := hide (fun (i j : Nat) (hi : i < x.len) (hj : j < x.L i) (hc : n.net.check = 0) W (hb : Below w.heap.size w W) => right_any n (x.R i j) W ((hx.grown hb).rt i hi j hj) hc)
  have HLd := hide (fun (i j : Nat) (hi : i < x.len) (hj : j < x.L i) (hc : n.net.check = 0) (hr : n.net.right (x.R i j).rt = true) W (hb : Below w.heap.size w W) => leads_any n (x.R i j) i j W ((hx.grown hb).rt i hi j hj) (Net.good_of_check hc).law.good.lo (Net.good_of_check hc).law.good.hi (fun hv => (Net.right_iff.1 hr).some hv))
  have HX := hide hx
  have Hdef : Hid (n.net.pfit x.t = if n.net.check ≠ 0 then n.net.check else if (x.len : Int) ≠ n.nodes ∨ x.t.wide n.nodes = false then 1 else if n.net.fitsAll x.t = true then 0 else 4) := hide rfl
  generalize n.net.check = ck at *
  simp only [NetM.val, NetM.cells, Mat.val, RMat.val, RtM.val, RtM.cells] at HC HSq HRt HLd ⊢
  clear h hx
  by_cases hc : ck = 0
  rotate_left
  · have hc' : (ck != 0) = true := by simp [hc]
    have He : Hid (n.net.pfit x.t = ck) := hide (by rw [Hdef.out, if_pos hc])
    clear hc Hdef b0
    go_enter Try.func46, Try.ntmps46
    go_wp2_with fail
    go_at_call 70
    refine HC.out.mono ?_
    rintro e w1 ⟨rfl, hb1⟩
    have HB1 := hide (hB0.trans (hb1.mono hB0.size))
    clear hb1 HC hB0
    go_wp2
    go_ret
    exact ⟨by rw [He.out]; rfl, HB1.out⟩
  subst hc
  have Hdef1 : Hid (n.net.pfit x.t = if (x.len : Int) ≠ n.nodes ∨ x.t.wide n.nodes = false then 1 else if n.net.fitsAll x.t = true then 0 else 4) := hide (by rw [Hdef.out, if_neg (by simp)])
  clear Hdef
  go_enter Try.func46, Try.ntmps46
  go_wp2_with fail
  go_at_call 70
  refine HC.out.mono ?_
  rintro e W1 ⟨rfl, hb1⟩
  have hB1 := hB0.trans (hb1.mono hB0.size)
  have b1 := b0.below hb1 b0.lt
  have y3 := b1.cell 3
  simp [NetM.cells] at y3
  have HS1 := hide (HSq.out W1 hB1)
  have HB1 := hide hB1
  have Hb1 := hide b1
  clear hb1 HC hB0 b0 hB1 b1 HSq
  go_wp2_with fail
  go_at_call 109
  refine HS1.out.mono ?_
  rintro e W2 ⟨rfl, hb2⟩
  have HB2 := hide (HB1.out.trans (hb2.mono HB1.out.size))
  have Hb2 := hide (Hb1.out.below hb2 Hb1.out.lt)
  clear hb2 HS1 HB1 Hb1 y3
  by_cases hsq : (((x.len : Int) == n.nodes) && x.t.wide n.nodes) = true
  rotate_left
  · have hs' : (((x.len : Int) == n.nodes) && x.t.wide n.nodes) = false := by simpa using hsq
    have hfin : Hid (n.net.pfit x.t = 1) := hide (by
      rw [Hdef1.out, if_pos]
      by_cases hl : (x.len : Int) = n.nodes
      · right
        rw [show ((x.len : Int) == n.nodes) = true by simp [hl], Bool.true_and] at hs'
        exact hs'
      · exact Or.inl hl)
    rw [hs']
    clear hsq hs' Hdef1
    go_wp2
    go_ret
    exact ⟨by rw [hfin.out]; rfl, HB2.out⟩
  have Hd2 : Hid (n.net.pfit x.t = if n.net.fitsAll x.t = true then 0 else 4) := hide (by
    simp only [Bool.and_eq_true, beq_iff_eq] at hsq
    rw [Hdef1.out, if_neg (by rintro (e | e); exact e hsq.1; rw [hsq.2] at e; cases e)])
  rw [hsq]
  clear hsq Hdef1
  go_wp2_with fail
  go_loopw [6, 7, 8, 9, 22] (fun _ _ _ _ q wr => ∃ k : Nat, k ≤ x.len ∧ q = .int .i64 k ∧ Hid (∀ i, i < k → ∀ j, j < x.L i → n.net.fits i j (x.R i j).rt = true) ∧ Hid (Below W2.heap.size W2 wr)) (fun _ _ _ _ q _ => x.len - (intOf q).toNat)
  case atStart => exact ⟨0, Nat.zero_le _, rfl, hide fun r hr => absurd hr (Nat.not_lt_zero _), hide (Below.refl _ _)⟩
  case round =>
    obtain ⟨i, hi, rfl, Hall, HD⟩ := hrel
    by_cases hlt : i < x.len
    · have hii : (i : Int) < (x.len : Int) := by omega
      have hI := HX.out.below (HB2.out.trans (HD.out.mono HB2.out.size)) (Nat.le_refl _)
      have hga := hI.ga (by omega)
      have hrow := hI.row i hlt
      have hlens := hI.lens i hlt
      unfold maxLen at hlens
      have HD1 := HD
      clear hI HD
      go_wp2_with fail
      clear hrow
      go_loopw [8, 9, 29] (fun _ _ q wr => ∃ k : Nat, k ≤ x.L i ∧ q = .int .i64 k ∧ Hid (∀ j, j < k → n.net.fits i j (x.R i j).rt = true) ∧ Hid (Below W2.heap.size W2 wr)) (fun _ _ q _ => x.L i - (intOf q).toNat)
      case atStart => exact ⟨0, Nat.zero_le _, rfl, hide fun r hr => absurd hr (Nat.not_lt_zero _), HD1⟩
      case round =>
        obtain ⟨j, hj, rfl, Hrow, HD⟩ := hrel
        by_cases hjl : j < x.L i
        · have hji : (j : Int) < (x.L i : Int) := by omega
          have hBw := HB2.out.trans (HD.out.mono HB2.out.size)
          have hI := HX.out.below hBw (Nat.le_refl _)
          have hA := (hI.addr i hlt (by omega)).1
          have c0 := hI.wt i hlt j hjl
          have c1 := hI.pt i hlt j hjl
          have hBa : Below W2.heap.size W2 (wr.alloc (.cells (x.R i j).cells 71)) := HD.out.alloc HD.out.size _
          have br := Blk.new wr (x.R i j).cells 71
          have bn := Hb2.out.below hBa Hb2.out.lt
          have hBf := HB2.out.trans (hBa.mono HB2.out.size)
          have HR1 := hide (HRt.out i j hlt hjl (by trivial) _ hBf)
          have HL1 := hide (HLd.out i j hlt hjl (by trivial))
          have Hfd : Hid (n.net.fits i j (x.R i j).rt = (n.net.right (x.R i j).rt && n.net.leadsR (x.R i j).rt i j)) := hide rfl
          have Hff : Hid (n.net.fits i j (x.R i j).rt = false → n.net.pfit x.t = 4) := hide (fun e => by rw [Hd2.out, Net.fitsAll_false (t := x.t) hlt hjl e]; rfl)
          have x0 := bn.cell 0
          have x1 := bn.cell 1
          have x2 := bn.cell 2
          have x3 := bn.cell 3
          have x4 := bn.cell 4
          have y0 := br.cell 0
          have y1 := br.cell 1
          simp [NetM.cells, RtM.cells, Mat.val] at x0 x1 x2 x3 x4 y0 y1
          have Hbn := hide bn
          have Hbr := hide br
          have HBf := hide hBf
          have HBa := hide hBa
          simp only [RtM.cells] at HR1 Hbn Hbr HBf HBa x0 x1 x2 x3 x4 y0 y1
          generalize n.net.right (x.R i j).rt = rr at *
          generalize n.net.leadsR (x.R i j).rt i j = ll at *
          clear hI bn br hBf hBa hBw HRt HLd
          rw [hA]
          go_wp2_with fail
          go_at_call 91
          refine HR1.out.mono ?_
          rintro e w3 ⟨rfl, hb3⟩
          have HB3 := hide (HBa.out.trans (hb3.mono HBa.out.size))
          have Hbn3 := hide (Hbn.out.below hb3 Hbn.out.lt)
          have Hbr3 := hide (Hbr.out.below hb3 Hbr.out.lt)
          have HBf3 := hide (HBf.out.trans (hb3.mono HBf.out.size))
          clear x0 x1 x2 x3 x4 y0 y1 hb3 HR1 Hbn Hbr HBf HBa c0 c1
          cases rr with
          | false =>
            have He := hide (Hff.out (by rw [Hfd.out]; rfl))
            clear Hff Hfd HL1
            go_wp2
            go_ret
            exact ⟨by rw [He.out]; rfl, HBf3.out⟩
          | true =>
            have HLx := hide (HL1.out (by trivial) w3 HBf3.out)
            have x0 := Hbn3.out.cell 0
            have x1 := Hbn3.out.cell 1
            have x2 := Hbn3.out.cell 2
            have x3 := Hbn3.out.cell 3
            have x4 := Hbn3.out.cell 4
            have y0 := Hbr3.out.cell 0
            have y1 := Hbr3.out.cell 1
            simp [NetM.cells, Mat.val] at x0 x1 x2 x3 x4 y0 y1
            clear HL1
            go_wp2_with fail
            go_at_call 110
            refine HLx.out.mono ?_
            rintro e w4 ⟨rfl, hb4⟩
            have HB4 := hide (HB3.out.trans (hb4.mono HB3.out.size))
            have HBf4 := hide (HBf3.out.trans (hb4.mono HBf3.out.size))
            clear x0 x1 x2 x3 x4 y0 y1 hb4 HLx Hbn3 Hbr3 HBf3 HB3
            cases ll with
            | false =>
              have He := hide (Hff.out (by rw [Hfd.out]; rfl))
              clear Hff Hfd
              go_wp2
              go_ret
              exact ⟨by rw [He.out]; rfl, HBf4.out⟩
            | true =>
              have Hn : Hid (∀ c, c < j + 1 → n.net.fits i c (x.R i c).rt = true) := hide (fun c hc => by
                by_cases e : c = j
                · subst e; exact Hfd.out
                · exact Hrow.out c (by omega))
              clear Hff Hfd
              go_wp2
              go_roundw
              case rel =>
                first
                | exact ⟨j + 1, by omega, by go_num, Hn, HB4⟩
                | ((try rw [← hga]); (try rw [← hA]); (repeat apply Exists.intro); refine ⟨?_, rfl⟩; exact ⟨j + 1, by omega, by go_num, Hn, HB4⟩)
              case measure => simp [intOf]; omega
        · have hji : (x.L i : Int) ≤ (j : Int) := by omega
          have HAn : Hid (∀ r, r < i + 1 → ∀ c, c < x.L r → n.net.fits r c (x.R r c).rt = true) := hide (fun r hr => by
            by_cases e : r = i
            · subst e; exact fun c hc => Hrow.out c (by omega)
            · exact Hall.out r (by omega))
          go_wp2
          go_roundw
          case rel =>
            first
            | exact ⟨i + 1, by omega, by go_num, HAn, HD⟩
            | ((try rw [← hga]); (repeat apply Exists.intro); refine ⟨?_, rfl⟩; exact ⟨i + 1, by omega, by go_num, HAn, HD⟩)
          case measure => simp [intOf]; omega
    · have hii : (x.len : Int) ≤ (i : Int) := by omega
      have hro : n.net.fitsAll x.t = true := Net.fitsAll_iff.2 (fun r hr c hc => Net.fits_iff.1 (Hall.out r (by have : r < x.len := hr; omega) c hc))
      have hfin : Hid (n.net.pfit x.t = 0) := hide (by rw [Hd2.out, if_pos hro])
      have HBf := hide (HB2.out.trans (HD.out.mono HB2.out.size))
      clear hro
      go_wp2
      go_ret
      exact ⟨by rw [hfin.out]; rfl, HBf.out⟩

end Go.Proofs.Ytjhkadffaephmab

/-
  state.Filled at routes.
-/
namespace Go.Proofs.Ytjhkadffaephmab
set_option maxRecDepth 100000
open Go.RowKit

set_option maxHeartbeats 4000000 in
theorem filledR_any (fid : Nat) (cap : Array Value) (N : Nat) (Z : Nat → Nat → Rt) (w : World) (hN0 : 1 ≤ N) (hN6 : N ≤ 6)
    (hcf : ∀ (args : Array Value) (W : World), (callFunc fid args).run Try.prog W = .ok (.enter fid args) W)
    (hat : ∀ (i j : Nat) (W : World), i < N → j < N → Below w.heap.size w W → Calls Try.prog fid (#[.int .i64 i, .int .i64 j] ++ cap) W fun e w' => (∃ r : RtM, e = .returned r.val ∧ r.Made W.heap.size (Z i j) w') ∧ Below W.heap.size W w') :
    Calls Try.prog 103 #[.int .i64 N, .func (.func fid) #[] cap] w fun e w' => (∃ m : RMat, e = .returned m.val ∧ FreshR N Z m w') ∧ Below w.heap.size w w' := by
  obtain ⟨i1, hi1, hy0, hy1, hy2⟩ := info_parts Try.infoRoute
  obtain ⟨i2, hi2, hx0, hx1, hx2⟩ := info_parts Try.infoRoutes
  have hmkA : ∀ u : World, (Instr.makeSlice 83 (.int .i64 (N : Int)) (.int .i64 (N : Int))).run Try.prog u = .ok (.slice (some ⟨u.heap.size, 0, none⟩) N N) (u.alloc (.cells (madeCells #[.slice none 0 0] N) 94)) := fun u => by
    have h := run_make (P := Try.prog) u 83 94 i2 (.slice none 0 0) Try.underlying83 hi2 hx0 .i64 .i64 (N : Int) (N : Int) (by omega) (Int.le_refl _) (by rw [hx2]; omega) (by omega)
    simpa [hx1, Value.cells] using h
  have hmkB : ∀ u : World, (Instr.makeSlice 94 (.int .i64 (N : Int)) (.int .i64 (N : Int))).run Try.prog u = .ok (.slice (some ⟨u.heap.size, 0, none⟩) N N) (u.alloc (.cells (madeCells #[.int .i64 0, .slice none 0 0] (N * 2)) 71)) := fun u => by
    have h := run_make (P := Try.prog) u 94 71 i1 (.agg #[.int .i64 0, .slice none 0 0]) Try.underlying94 hi1 hy0 .i64 .i64 (N : Int) (N : Int) (by omega) (Int.le_refl _) (by rw [hy2]; omega) (by omega)
    simpa [hy1, Value.cells] using h
  have HO := hide hat
  clear hat
  go_enter Try.func103, Try.ntmps103
  go_wp2_with fail
  go_loopw [6, 7, 12] (fun _ _ q wr => ∃ k : Nat, k ≤ N ∧ q = .int .i64 k ∧ Hid (Below w.heap.size w wr) ∧ Hid (∃ (g c : Nat → Nat) (R : Nat → Nat → RtM), MdRI w.heap.size w.heap.size g c N Z R k wr)) (fun _ _ q _ => N - (intOf q).toNat)
  case atStart => exact ⟨0, Nat.zero_le _, rfl, hide ((Below.refl _ _).alloc (Nat.le_refl _) _), hide ⟨_, _, fun _ _ => zeroR, MdRI.start w w.heap.size N Z _ (Nat.le_refl _)⟩⟩
  case round =>
    obtain ⟨i, hi, rfl, HB, HM⟩ := hrel
    by_cases hlt : i < N
    · obtain ⟨g, c, R, hM⟩ := HM.out
      have hsz := HB.out.size
      have hMr := hM.row (by omega) (madeCells #[.int .i64 0, .slice none 0 0] (N * 2)) (size_madeCells _ _)
      have o0 : ∀ o, (wr.alloc o).cell? ⟨w.heap.size, i, none⟩ = some (.slice none 0 0) := fun o => by
        have := (hM.out.alloc o).cell i
        rw [outG_get hlt, if_neg (Nat.lt_irrefl _)] at this
        exact this
      have of : ∀ o, (wr.alloc o).frozen? ⟨w.heap.size, i, none⟩ = false := fun o => (hM.out.alloc o).frozen i
      have hii : (i : Int) < (N : Int) := by omega
      have hm0 := hMr.out.cell i
      rw [outG_get hlt, if_pos (by omega), updN_same, updN_same] at hm0
      have HR : Hid (FilI w N Z (updN g i wr.heap.size) (updN c i N) i 0 ((wr.alloc (.cells (madeCells #[.int .i64 0, .slice none 0 0] (N * 2)) 71)).setCell ⟨w.heap.size, i, none⟩ (.slice (some ⟨wr.heap.size, 0, none⟩) N N))) :=
        hide ⟨(HB.out.alloc HB.out.size _).setCell (p := ⟨w.heap.size, i, none⟩) (Nat.le_refl _) _, R, hMr⟩
      have Hg : Hid (updN g i wr.heap.size i = wr.heap.size) := hide (updN_same _ _ _)
      generalize updN g i wr.heap.size = g' at *
      generalize updN c i N = c' at *
      clear hM hMr HM
      go_wp2_with fail
      obtain ⟨wq, hwq⟩ : ∃ wq, wq = wr.heap.size := ⟨_, rfl⟩
      clear o0 of hm0
      rw [← hwq] at Hg
      simp only [← hwq] at *
      clear hwq
      go_loopw [7, 25] (fun _ q wx => ∃ k : Nat, k ≤ N ∧ q = .int .i64 k ∧ Hid (FilI w N Z g' c' i k wx)) (fun _ q _ => N - (intOf q).toNat)
      case atStart => exact ⟨0, Nat.zero_le _, rfl, HR⟩
      case round =>
        obtain ⟨k, hk, rfl, HJ⟩ := hrel
        by_cases hkl : k < N
        · have hki : (k : Int) < (N : Int) := by omega
          go_wp2_with fail
          refine wp_region_last 10 _ (FilI w N Z g' c' i k)
            (filE [.slice (some ⟨w.heap.size, 0, none⟩) N N, .int .i64 i, .pointer (some ⟨w.heap.size, i, none⟩), .slice (some ⟨g' i, 0, none⟩) N N, .int .i64 k, .func (.func fid) #[] cap, .int .i64 i, .int .i64 k, undef, .pointer (some ⟨g' i, k * 2, none⟩)] (Z i k) w.heap.size (g' i))
            (fun _ W => FilI w N Z g' c' i (k + 1) W) (fun _ _ _ => True) (by kernel_rfl) (by kernel_rfl) (by kernel_rfl) (by kernel_rfl) (by kernel_rfl) rfl (HJ.out.keep ⟨rfl, rfl, rfl, Nat.le_refl _, fun _ _ => rfl⟩) ⟨?_, ?_, ?_, ?_, ?_, ?_, ?_, ?_, ?_, ?_, trivial⟩ ?_ trivial ?_
          rotate_right
          · intro t W hG _
            have HG := hide hG
            clear hG
            simp only [fill, Act.put, List.setIfInBounds_toArray, List.set_cons_zero, List.set_cons_succ]
            go_wp2
            go_roundw
            case rel =>
              first
              | exact ⟨k + 1, by omega, by go_num, HG⟩
              | ((repeat apply Exists.intro); refine ⟨?_, rfl⟩; exact ⟨k + 1, by omega, by go_num, HG⟩)
            case measure => simp [intOf]; omega
          rotate_right
          · intro t W hG hE _ K hK
            simp only [fill, Act.put, List.setIfInBounds_toArray, List.set_cons_zero, List.set_cons_succ] at hK ⊢
            rw [if_pos (by rfl)]
            obtain ⟨r, e8, hr⟩ := hE 8 (by omega)
            have e9 := filE_get (hE 9 (by omega)) (by decide) rfl
            obtain ⟨R, hR⟩ := hG.made
            obtain ⟨⟨u0, c0⟩, ⟨u1, c1⟩, f0, f1⟩ := hR.cur.old hkl
            have hN' : FilI w N Z g' c' i (k + 1) ((W.setCell ⟨g' i, k * 2, none⟩ (.int .i64 r.w)).setCell ⟨g' i, k * 2 + 1, none⟩ (.slice r.pa r.l r.q)) := ⟨(hG.below.setCell (p := ⟨g' i, k * 2, none⟩) hR.own.1 _).setCell (p := ⟨g' i, k * 2 + 1, none⟩) hR.own.1 _, _, hR.put hkl hr⟩
            have hN'' := hide hN'
            clear hR hG hE hr hN'
            simp only [e8, e9, RtM.val, RtM.cells] at hK ⊢
            go_simp
            exact hK undef _ hN''.out
          all_goals intro t W hG hp _ K hK
          all_goals simp only [fill, Act.put, List.setIfInBounds_toArray, List.set_cons_zero, List.set_cons_succ] at hK ⊢
          all_goals rw [if_pos (by rfl)]
          · go_simp
            exact hK _ W hG rfl (fun _ _ _ h => h)
          · go_simp
            exact hK _ W hG rfl (fun _ _ _ h => h)
          · have e0 := filE_get (hp 0 (by decide)) (by decide) rfl
            have e1 := filE_get (hp 1 (by decide)) (by decide) rfl
            simp only [e0, e1] at hK ⊢
            go_simp
            exact hK _ W hG rfl (fun _ _ _ h => h)
          · have e2 := filE_get (hp 2 (by decide)) (by decide) rfl
            have c1 : W.cell? ⟨w.heap.size, i, none⟩ = some (.slice (some ⟨g' i, 0, none⟩) N N) := by
              obtain ⟨R, hR⟩ := hG.made
              have c1 := hR.out.cell i
              rw [outG_get hlt, if_pos (by omega), hR.room] at c1
              exact c1
            simp only [e2] at hK ⊢
            go_simp
            exact hK _ W hG rfl (fun _ _ _ h => h)
          · go_simp
            exact hK _ W hG rfl (fun _ _ _ h => h)
          · go_simp
            exact hK _ W hG rfl (fun _ _ _ h => h)
          · go_simp
            exact hK _ W hG rfl (fun _ _ _ h => h)
          · go_simp
            exact hK _ W hG rfl (fun _ _ _ h => h)
          · have e5 := filE_get (hp 5 (by decide)) (by decide) rfl
            have e6 := filE_get (hp 6 (by decide)) (by decide) rfl
            have e7 := filE_get (hp 7 (by decide)) (by decide) rfl
            simp only [e5, e6, e7] at hK ⊢
            go_simp
            refine (HO.out i k W hlt hkl hG.below).mono ?_
            rintro e W' ⟨⟨r, rfl, hr⟩, hb⟩
            have ht := hG.two
            simp only [RtM.val, RtM.cells] at hK ⊢
            go_simp
            exact hK _ W' (hG.keep hb) ⟨r, rfl, hr.mem, hr.same, fun h0 => by have := hr.own h0; omega⟩ (fun q u _ => filE.keep hb q u)
          · have e3 := filE_get (hp 3 (by decide)) (by decide) rfl
            have e4 := filE_get (hp 4 (by decide)) (by decide) rfl
            simp only [e3, e4] at hK ⊢
            go_simp
            exact hK _ W hG rfl (fun _ _ _ h => h)
        · have hkn : k = N := by omega
          subst hkn
          have HD : Hid (∃ (g c : Nat → Nat) (R : Nat → Nat → RtM), MdRI w.heap.size w.heap.size g c k Z R (i + 1) wr) := hide (by
            obtain ⟨R, hR⟩ := HJ.out.made
            exact ⟨_, _, R, hR.done⟩)
          have HBn := hide HJ.out.below
          go_wp2
          go_roundw
          case rel =>
            first
            | exact ⟨i + 1, by omega, by go_num, HBn, HD⟩
            | ((repeat apply Exists.intro); refine ⟨?_, rfl⟩; exact ⟨i + 1, by omega, by go_num, HBn, HD⟩)
          case measure => simp [intOf]; omega
    · have hin : i = N := by omega
      subst hin
      obtain ⟨g, c, R, hM⟩ := HM.out
      obtain ⟨m, e1, e2⟩ := hM.mat (by omega)
      have HF := hide e2
      have He := hide e1
      clear hM e1 e2 HM
      go_wp2
      go_ret
      exact ⟨⟨m, congrArg Ending.returned He.out, HF.out⟩, HB.out⟩

end Go.Proofs.Ytjhkadffaephmab
