/-
  Tables of which row by row is made, each in a block of its own that another call made.
-/
import Derived.Test.YtjhkadffaephmabLook
import Derived.Test.YtjhkadffaephmabBuildA
namespace Go.Proofs.Ytjhkadffaephmab
set_option maxRecDepth 100000
open Go.RowKit

/-- The cells of a table of which i rows are made. -/
def outG (g c : Nat → Nat) (p n i : Nat) : Array Value := ((List.range n).map fun r => if r < i then Value.slice (some ⟨g r, 0, none⟩) p (c r) else .slice none 0 0).toArray
theorem outG_get {g c : Nat → Nat} {p n i r : Nat} (h : r < n) : (outG g c p n i)[r]? = some (if r < i then Value.slice (some ⟨g r, 0, none⟩) p (c r) else .slice none 0 0) := by
  simp [outG, h]
/-- f, but v at i. -/
def updN (f : Nat → Nat) (i v : Nat) : Nat → Nat := fun r => if r = i then v else f r
theorem updN_same (f : Nat → Nat) (i v : Nat) : updN f i v i = v := by simp [updN]
theorem updN_other (f : Nat → Nat) {i r : Nat} (v : Nat) (h : r ≠ i) : updN f i v r = f r := by simp [updN, h]
theorem outG_set {g c : Nat → Nat} {p n i a b : Nat} : (outG g c p n i).setIfInBounds i (.slice (some ⟨a, 0, none⟩) p b) = outG (updN g i a) (updN c i b) p n (i + 1) := by
  apply Array.ext
  · simp [outG]
  · intro j h1 h2
    have hn : j < n := by simpa [outG] using h2
    by_cases e : i = j
    · subst e
      simp [outG, updN]
    · rw [Array.getElem_setIfInBounds_ne (by simpa [outG] using hn) e]
      simp only [outG, List.getElem_toArray, List.getElem_map, List.getElem_range, updN_other _ _ (Ne.symm e)]
      by_cases h : j < i
      · rw [if_pos h, if_pos (by omega)]
      · rw [if_neg h, if_neg (by omega)]
theorem outG_zero (g c : Nat → Nat) (p n : Nat) : madeCells #[.slice none 0 0] n = outG g c p n 0 := by
  apply Array.ext'
  rw [toList_madeCells_one]
  simp [outG, List.map_const']

/-- i rows are made. -/
structure MadeI (lo ob : Nat) (g c : Nat → Nat) (p n : Nat) (Z : Nat → Nat → Int) (i : Nat) (W : World) : Prop where
  out : Blk W ob (outG g c p n i) 22
  base : lo ≤ ob
  rows : ∀ r, r < i → lo ≤ g r ∧ Lies W (g r) ∧ g r ≠ ob ∧ ∀ j, j < p → W.cell? ⟨g r, j, none⟩ = some (.int .i64 (Z r j))

theorem MadeI.start (w : World) (lo p n : Nat) (Z : Nat → Nat → Int) (h : lo ≤ w.heap.size) : MadeI lo w.heap.size (fun _ => 0) (fun _ => 0) p n Z 0 (w.alloc (.cells (madeCells #[.slice none 0 0] n) 22)) where
  out := by rw [outG_zero (fun _ => 0) (fun _ => 0) p n]; exact Blk.new w _ _
  base := h
  rows := fun r hr => absurd hr (Nat.not_lt_zero _)

theorem MadeI.below {lo ob : Nat} {g c : Nat → Nat} {p n i : Nat} {Z : Nat → Nat → Int} {W W' : World} (h : MadeI lo ob g c p n Z i W) (hb : Below W.heap.size W W') : MadeI lo ob g c p n Z i W' where
  out := h.out.below hb h.out.lt
  base := h.base
  rows := fun r hr => by
    obtain ⟨h1, h2, h3, h4⟩ := h.rows r hr
    exact ⟨h1, h2.grown hb, h3, fun j hj => by rw [hb.cell (p := ⟨g r, j, none⟩) h2.lt]; exact h4 j hj⟩

theorem MadeI.put {lo ob : Nat} {g c : Nat → Nat} {p n i : Nat} {Z : Nat → Nat → Int} {W : World} (h : MadeI lo ob g c p n Z i W) {a b : Nat} (ha : lo ≤ a) (hl : Lies W a) (hne : a ≠ ob) (hz : ∀ j, j < p → W.cell? ⟨a, j, none⟩ = some (.int .i64 (Z i j))) :
    MadeI lo ob (updN g i a) (updN c i b) p n Z (i + 1) (W.setCell ⟨ob, i, none⟩ (.slice (some ⟨a, 0, none⟩) p b)) where
  out := by have := h.out.set i (.slice (some ⟨a, 0, none⟩) p b); rw [outG_set] at this; exact this
  base := h.base
  rows := fun r hr => by
    by_cases e : r = i
    · subst e
      rw [updN_same]
      exact ⟨ha, hl.set _ _, hne, fun j hj => by rw [cell_other hne]; exact hz j hj⟩
    · rw [updN_other g a e]
      obtain ⟨h1, h2, h3, h4⟩ := h.rows r (by omega)
      exact ⟨h1, h2.set _ _, h3, fun j hj => by rw [cell_other h3]; exact h4 j hj⟩

/-- A state of n rows of n each, made anew from lo on. -/
def Fresh (n lo : Nat) (Z : Nat → Nat → Int) (m : Mat) (W : World) : Prop := m.t = ⟨n, fun _ => n, Z⟩ ∧ m.In W.heap.size W ∧ m.From lo ∧ m.Soft W

theorem MadeI.mat {lo ob : Nat} {g c : Nat → Nat} {p n : Nat} {Z : Nat → Nat → Int} {W : World} (h : MadeI lo ob g c p n Z n W) (hn : n ≤ 100) (hp : p ≤ 100) :
    ∃ m : Mat, Value.slice (some ⟨ob, 0, none⟩) n n = m.val ∧ m.t = ⟨n, fun _ => p, Z⟩ ∧ m.In W.heap.size W ∧ m.From lo ∧ m.Soft W := by
  refine ⟨⟨some ⟨ob, 0, none⟩, ob, 0, n, fun r => some ⟨g r, 0, none⟩, c, g, fun _ => 0, ⟨n, fun _ => p, Z⟩⟩, rfl, rfl, ⟨fun _ => rfl, fun _ => h.out.lt, ?_, ?_, ?_, ?_, ?_⟩, ⟨fun _ => h.base, ?_⟩, fun r hr _ => (h.rows r hr).2.1⟩
  · intro r hr
    have hr' : r < n := hr
    show W.cell? ⟨ob, 0 + r, none⟩ = _
    rw [h.out.cell (0 + r), Nat.zero_add, outG_get hr', if_pos hr']
  · exact fun r hr _ => ⟨rfl, (h.rows r hr).2.1.lt⟩
  · intro r hr j hj
    have hj' : j < p := hj
    show W.cell? ⟨g r, 0 + j, none⟩ = _
    rw [Nat.zero_add]
    exact (h.rows r hr).2.2.2 j hj'
  · show n ≤ maxLen; unfold maxLen; omega
  · intro r _; show p ≤ maxLen; unfold maxLen; omega
  · exact fun r hr _ => (h.rows r hr).1

set_option maxHeartbeats 4000000 in
theorem look_any (fid : Nat) (cap : Array Value) (n : NetM) (i : Nat) (has : Nat → Nat → Int) (w : World) (h : n.In w.heap.size w) (hck : n.net.check = 0) (hr : ∀ j, j < n.net.N → n.net.Routes (has j))
    (hcf : ∀ (args : Array Value) (W : World), (callFunc fid args).run Try.prog W = .ok (.enter fid args) W)
    (hat : ∀ (v j : Nat) (W : World), v < n.net.N → j < n.net.N → Below w.heap.size w W → Calls Try.prog fid (#[.int .i64 v, .int .i64 j] ++ cap) W fun e w' => e = .returned (.int .i64 (has j v)) ∧ ∃ m, w' = W.drewN m) :
    Calls Try.prog 154 #[n.val, .int .i64 i, .func (.func fid) #[] cap] w fun e w' => e = .returned (.slice (some ⟨w.heap.size + 1, 0, none⟩) n.net.N n.net.N) ∧ Below w.heap.size w w' ∧ Lies w' (w.heap.size + 1) ∧ ∀ j, j < n.net.N → w'.cell? ⟨w.heap.size + 1, j, none⟩ = some (.int .i64 (n.net.route i j (has j))) := by
  have g := Net.good_of_check hck
  have lo := g.lo
  have hi6 := g.hi
  obtain ⟨N, hN⟩ : ∃ N : Nat, n.nodes = N := ⟨n.nodes.toNat, by have : n.net.nodes = n.nodes := rfl; omega⟩
  have hNN : n.net.N = N := by show n.nodes.toNat = N; omega
  have hN6 : N ≤ 6 := by have : n.net.nodes = n.nodes := rfl; omega
  rw [hNN] at hr hat ⊢
  obtain ⟨i1, hi1, hy0, hy1, hy2⟩ := info_parts Try.infoInt
  have hmkB : ∀ u : World, (Instr.makeSlice 22 (.int .i64 (N : Int)) (.int .i64 (N : Int))).run Try.prog u = .ok (.slice (some ⟨u.heap.size, 0, none⟩) N N) (u.alloc (.cells (madeCells #[.int .i64 0] N) 3)) := fun u => by
    have h := run_make (P := Try.prog) u 22 3 i1 (.int .i64 0) Try.underlying22 hi1 hy0 .i64 .i64 (N : Int) (N : Int) (by omega) (Int.le_refl _) (by rw [hy2]; omega) (by omega)
    simpa [hy1, Value.cells] using h
  have hB0 : Below w.heap.size w (w.alloc (.cells n.cells 41)) := (Below.refl _ w).alloc (Nat.le_refl _) _
  have b0 := Blk.new w n.cells 41
  have HA := hide hat
  have H := hide h
  have HR := hide hr
  have HK := hide hck
  have HCF := hide hcf
  clear hat h g hr hck lo hi6 hcf
  have hcells : n.cells = #[.int .i64 n.a.size, .slice n.a.B.ga n.a.B.t.len n.a.B.cap, .slice n.a.E.ga n.a.E.t.len n.a.E.cap, .int .i64 N, .slice n.la n.ln n.lc] := by simp only [NetM.cells, Mat.val, hN]
  simp only [NetM.val, hcells]
  have Hcells := hide hcells
  clear hN hcells hB0 b0
  go_enter Try.func154, Try.ntmps154
  go_wp2_with fail
  go_loopw [8, 14] (fun _ q wr => ∃ k : Nat, k ≤ N ∧ q = .int .i64 k ∧ Hid (Below (w.heap.size + 1) (w.alloc (.cells n.cells 41)) wr) ∧ Hid (Blk wr (w.heap.size + 1) (rowArr (fun j => n.net.route i j (has j)) N k) 3)) (fun _ q _ => N - (intOf q).toNat)
  case atStart => 
    refine ⟨0, Nat.zero_le _, rfl, hide ?_, hide ?_⟩
    · rw [Hcells.out]
      exact (Below.refl _ _).alloc (by simp) _
    · rw [rowArr_zero (fun j => n.net.route i j (has j)) N]
      exact Blk.new' (by simp)
  case round =>
    obtain ⟨k, hk, rfl, HB, HJ⟩ := hrel
    have hBw : Below w.heap.size w wr := ((Below.refl _ w).alloc (Nat.le_refl _) _).trans (HB.out.mono (by omega))
    by_cases hlt : k < N
    · have bN := (Blk.new w n.cells 41).below HB.out (by omega)
      have x0 := bN.cell 0
      have x1 := bN.cell 1
      have x2 := bN.cell 2
      have x3 := bN.cell 3
      have x4 := bN.cell 4
      simp [Hcells.out] at x0 x1 x2 x3 x4
      have HC := hide (route_any fid cap n i k (has k) wr (H.out.grown hBw) HK.out (by intro v hv; exact HR.out k hlt v hv) HCF.out (fun v W hv hb => HA.out v k W (by rw [hNN] at hv; exact hv) hlt (hBw.trans (hb.mono hBw.size))))
      simp only [NetM.val, Hcells.out] at HC
      go_wp2_with fail
      go_at_call 192
      refine HC.out.mono ?_
      rintro e w2 ⟨rfl, hb2⟩
      have hJ2 := HJ.out.below hb2 HJ.out.lt
      have r1 := hJ2.cell k
      rw [rowArr_get hlt, if_neg (Nat.lt_irrefl _)] at r1
      have rf := hJ2.frozen k
      have hki : (k : Int) < (N : Int) := by omega
      have hJ3 := hJ2.set k (.int .i64 (n.net.route i k (has k)))
      rw [rowArr_set (Z := fun j => n.net.route i j (has j))] at hJ3
      have HJ3 := hide hJ3
      have HB3 := hide ((HB.out.trans (hb2.mono (by have := HB.out.size; simp at this; omega))).setCell (p := ⟨w.heap.size + 1, k, none⟩) (Nat.le_refl _) (.int .i64 (n.net.route i k (has k))))
      clear hJ2 hJ3 HJ HB hb2 x0 x1 x2 x3 x4 bN
      go_wp2
      go_roundw
      case rel =>
        first
        | exact ⟨k + 1, by omega, by go_num, HB3, HJ3⟩
        | ((repeat apply Exists.intro); refine ⟨?_, rfl⟩; exact ⟨k + 1, by omega, by go_num, HB3, HJ3⟩)
      case measure => simp [intOf]; omega
    · have hkn : k = N := by omega
      subst hkn
      have HBw := hide hBw
      clear hBw
      go_wp2
      go_ret
      refine ⟨rfl, HBw.out, ⟨_, HJ.out⟩, fun j hj => ?_⟩
      rw [HJ.out.cell j, rowArr_get hj, if_pos hj]

end Go.Proofs.Ytjhkadffaephmab
