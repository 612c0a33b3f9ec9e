/-
  Our own texts, bundled: a claim holds few files.
-/
import Derived.Test.YtjhkadffaephmabGreatCutEnginePlaysBB
import Derived.Test.YtjhkadffaephmabGreatCutEnginePlaysAI
import Derived.Test.YtjhkadffaephmabGreatCutEnginePlaysAD
import Derived.Test.YtjhkadffaephmabGreatCutEnginePlaysAH
import Derived.Test.YtjhkadffaephmabGreatCutEnginePlaysAG
import Derived.Test.YtjhkadffaephmabGreatCutEnginePlaysAJ
import Derived.Deep.AppendLies
import Derived.Laws.EntriesVeiled
import Derived.Test.YtjhkadffaephmabGreatCutEnginePlaysAC
/-
  signpostref.FitOf, RouteOf, Column.
-/
namespace Go.Proofs.YtjhkadffaephmabGreat
set_option maxRecDepth 100000
open Go.RowKit

set_option maxHeartbeats 4000000 in
theorem routeOf_any (n : NetM) (i j : Nat) (ga : Option Addr) (cap b o : Nat) (f : Nat → Int) (w : World) (h : n.In w.heap.size w) (hck : n.net.check = 0) (hf : Ints ga n.net.N b o f w) (hb : b < w.heap.size) (hr : n.net.Routes f) :
    Calls Tryz.prog 65 #[n.val, .int .i64 i, .int .i64 j, .slice ga n.net.N cap] w fun e w' => e = .returned (.int .i64 (n.net.route i j f)) ∧ Below w.heap.size w w' := by
  have g := Net.good_of_check hck
  have lo := g.lo
  have hi6 := g.hi
  have hs0 : 2 ≤ n.a.size := g.law.good.lo
  have hs1 : n.a.size ≤ 24 := g.law.good.hi
  obtain ⟨N, hN⟩ : ∃ N : Nat, n.nodes = N := ⟨n.nodes.toNat, by have : n.net.nodes = n.nodes := rfl; omega⟩
  have hNN : n.net.N = N := by show n.nodes.toNat = N; omega
  have hN6 : N ≤ 6 := by have : n.net.nodes = n.nodes := rfl; omega
  have hN1 : 1 ≤ N := by have : n.net.nodes = n.nodes := rfl; omega
  rw [hNN] at hf ⊢
  have hga := hf.addr (by omega)
  subst hga
  have hcells : n.cells = #[.int .i64 n.a.size, .slice n.a.B.ga n.a.B.t.len n.a.B.cap, .slice n.a.E.ga n.a.E.t.len n.a.E.cap, .int .i64 N, .slice n.la n.ln n.lc] := by simp only [NetM.cells, Mat.val, hN]
  have hB0 : Below w.heap.size w (w.alloc (.cells n.cells 27)) := (Below.refl _ w).alloc (Nat.le_refl _) _
  have b0 := Blk.new w n.cells 27
  have HE := hide (fun (k : Nat) W (hb : Below w.heap.size w W) => edgeOf_any n i k W (h.grown hb))
  have HO := hide (n.net.out_spec g hr i j)
  have G := hide g
  have H := hide h
  have HR := hide hr
  have HF := hide hf
  have HNN := hide hNN
  have Hout0 : Hid (n.net.out i j f 0 = if i = j then 0 else n.a.size - 1) := hide rfl
  have Hroute : Hid (n.net.route i j f = n.net.out i j f N) := hide (by unfold Net.route; rw [hNN])
  simp only [NetM.val, hcells] at HE ⊢
  rw [hcells] at hB0 b0
  have Hcells := hide hcells
  obtain ⟨W0, hW0⟩ : ∃ W0, W0 = w.alloc (.cells #[.int .i64 n.a.size, .slice n.a.B.ga n.a.B.t.len n.a.B.cap, .slice n.a.E.ga n.a.E.t.len n.a.E.cap, .int .i64 N, .slice n.la n.ln n.lc] 27) := ⟨_, rfl⟩
  have B0 : Hid (Below w.heap.size w W0) := hide (by rw [hW0]; exact hB0)
  have Hb0 : Hid (Blk W0 w.heap.size #[.int .i64 n.a.size, .slice n.a.B.ga n.a.B.t.len n.a.B.cap, .slice n.a.E.ga n.a.E.t.len n.a.E.cap, .int .i64 N, .slice n.la n.ln n.lc] 27) := hide (by rw [hW0]; exact b0)
  clear hN hcells h hck hNN lo hi6 g hB0 b0 hr hf
  have key : ∃ v : Int, v = n.net.out i j f 0 ∧ ((i = j ∧ v = 0) ∨ (i ≠ j ∧ v = n.a.size - 1)) := by
    by_cases e : i = j
    · exact ⟨_, rfl, Or.inl ⟨e, by rw [Hout0.out, if_pos e]⟩⟩
    · exact ⟨_, rfl, Or.inr ⟨e, by rw [Hout0.out, if_neg e]⟩⟩
  obtain ⟨v0, hv0, hcase⟩ := key
  have Hv0 := hide hv0
  clear hv0 Hout0
  rcases hcase with ⟨hij, hv⟩ | ⟨hij, hv⟩
  all_goals
    first
    | (have hij' : ((i : Int) == (j : Int)) = true := by simp [hij])
    | (have hij' : ((i : Int) == (j : Int)) = false := by simp; omega)
    have Hv := hide hv
    clear hij hv
    go_enter Tryz.func65, Tryz.ntmps65
    go_wp2_with fail
    rw [← hW0]
    clear hW0
    go_loopw [9, 10, 11] (fun s q _ wr => ∃ k : Nat, k ≤ N ∧ q = .int .i64 k ∧ s = .int .i64 (n.net.out i j f k) ∧ Hid (Below W0.heap.size W0 wr)) (fun _ q _ _ => N - (intOf q).toNat)
    case atStart => exact ⟨0, Nat.zero_le _, rfl, by rw [← Hv0.out, Hv.out], hide (Below.refl _ _)⟩
    case round =>
      obtain ⟨k, hk, rfl, rfl, HB⟩ := hrel
      have bN := Hb0.out.below HB.out Hb0.out.lt
      have x0 := bN.cell 0
      have x1 := bN.cell 1
      have x2 := bN.cell 2
      have x3 := bN.cell 3
      have x4 := bN.cell 4
      simp at x0 x1 x2 x3 x4
      have hBw := B0.out.trans (HB.out.mono B0.out.size)
      by_cases hlt : k < N
      · have hki : (k : Int) < (N : Int) := by omega
        have HE1 := hide (HE.out k wr hBw)
        clear hBw
        go_wp2_with fail
        go_at_call 30
        refine HE1.out.mono ?_
        rintro e w3 ⟨rfl, e1⟩
        have hb3 : Below wr.heap.size wr w3 := by rw [e1]; exact (Below.refl _ _).alloc (Nat.le_refl _) _
        have HB3 := hide (HB.out.trans (hb3.mono HB.out.size))
        have b3 := bN.below hb3 bN.lt
        clear x0 x1 x2 x3 x4 bN HE1 hb3 e1
        by_cases hed : 0 ≤ n.net.edge i k
        · have hnext : n.net.out i j f (k + 1) = n.net.a.B.get (n.net.out i j f k) (n.net.a.E.get (n.net.edge i k) (f k)) := by rw [Net.out, if_pos hed]
          have hkN : k < n.net.N := by rw [HNN.out]; exact hlt
          have hel := n.net.edge_lt G.out i k
          obtain ⟨ke, hke⟩ : ∃ ke : Nat, n.net.edge i k = ke := ⟨(n.net.edge i k).toNat, by omega⟩
          obtain ⟨hv, hhv⟩ : ∃ hv : Nat, f k = hv := ⟨(f k).toNat, by have := (HR.out k hkN).1; omega⟩
          have hke8 : ke < n.a.E.t.len := by have e2 : n.net.a.E.len = n.a.E.t.len := rfl; omega
          have hEL : hv < n.a.E.t.L ke := by
            have e1 := G.out.law.good.ew ke hke8
            have e2 := (HR.out k hkN).2
            have e3 : n.net.a.E.L ke = n.a.E.t.L ke := rfl
            omega
          have hEz := G.out.law.good.ez ke hke8 hv hEL
          obtain ⟨mv, hmv⟩ : ∃ mv : Nat, n.a.E.t.Z ke hv = mv := ⟨(n.a.E.t.Z ke hv).toNat, by have := hEz.1; have e3 : n.net.a.E.Z ke hv = n.a.E.t.Z ke hv := rfl; omega⟩
          have hL := (HO.out k (by omega)).1
          obtain ⟨bv, hbv⟩ : ∃ bv : Nat, n.net.out i j f k = bv := ⟨(n.net.out i j f k).toNat, by omega⟩
          have hsz : n.net.a.size = n.a.size := rfl
          have hBl : bv < n.a.B.t.len := by
            have e1 := G.out.law.good.bl
            have e3 : n.net.a.B.len = n.a.B.t.len := rfl
            omega
          have hBL : mv < n.a.B.t.L bv := by
            have e1 := G.out.law.good.bw bv hBl
            have e3 : n.net.a.B.L bv = n.a.B.t.L bv := rfl
            have e4 : n.net.a.E.Z ke hv = n.a.E.t.Z ke hv := rfl
            omega
          have Hn : Hid (n.net.out i j f (k + 1) = n.a.B.t.Z bv mv) := hide (by
            rw [hnext, hbv, hke, hhv]
            show n.a.B.t.get bv (n.a.E.t.get ke hv) = _
            simp only [Tab.get, Int.toNat_natCast, hmv])
          have hI3 := H.out.below (B0.out.trans (HB3.out.mono B0.out.size)) (Nat.le_refl _)
          obtain ⟨a1, a2, a3⟩ := hI3.a.E.at hke8 hEL
          obtain ⟨d1, d2, d3⟩ := hI3.a.B.at hBl hBL
          rw [hmv] at a3
          have hc := (HF.out.below (B0.out.trans (HB3.out.mono B0.out.size)) (fun _ => hb)).cell k hlt
          rw [hhv] at hc
          have x1 := b3.cell 1
          have x2 := b3.cell 2
          simp at x1 x2
          have hei : (ke : Int) < (n.a.E.t.len : Int) := by omega
          have hvi : (hv : Int) < (n.a.E.t.L ke : Int) := by omega
          have hbi : (bv : Int) < (n.a.B.t.len : Int) := by omega
          have hmi : (mv : Int) < (n.a.B.t.L bv : Int) := by omega
          rw [hbv, hke]
          clear hnext hhv hmv hL hEz hbv hke hel hed hI3 b3
          go_wp2_with fail
          go_quiet (fail)
          go_wp2
          go_roundw
          case rel =>
            first
            | exact ⟨k + 1, by omega, by go_num, by rw [Hn.out], hide (below_drewN HB3.out _)⟩
            | ((try rw [← a1]); (try rw [← d1]); (repeat apply Exists.intro); refine ⟨?_, rfl⟩; exact ⟨k + 1, by omega, by go_num, by rw [Hn.out], hide (below_drewN HB3.out _)⟩)
          case measure => simp [intOf]; omega
        · have hnext : n.net.out i j f (k + 1) = n.net.out i j f k := by rw [Net.out, if_neg hed]
          have Hn := hide hnext
          have hed' : n.net.edge i k < 0 := by omega
          generalize n.net.edge i k = ed at *
          clear hnext hed b3
          go_wp2
          go_roundw
          case rel =>
            first
            | exact ⟨k + 1, by omega, by go_num, by rw [Hn.out], HB3⟩
            | ((repeat apply Exists.intro); refine ⟨?_, rfl⟩; exact ⟨k + 1, by omega, by go_num, by rw [Hn.out], HB3⟩)
          case measure => simp [intOf]; omega
      · have hkn : k = N := by omega
        have hki : (N : Int) ≤ (k : Int) := by omega
        subst hkn
        have HBw := hide hBw
        clear hBw
        go_wp2
        go_ret
        exact ⟨by rw [Hroute.out]; rfl, HBw.out⟩

end Go.Proofs.YtjhkadffaephmabGreat

/-
  signpostref.PathsOf.
-/
namespace Go.Proofs.YtjhkadffaephmabGreat
set_option maxRecDepth 100000
open Go.RowKit

section
variable {n : Net} {S : List Int → Prop} {C l : Nat} {xs : List Int} {k : Int} {B : Mat} {rn : Nat} {vs : List Value} {W W' : World}

end

/-- append, by what its run comes to. -/
theorem wp_append_run {P : Program} {o : Oper} {a : Act} {w : World} {K : Act → World → Prop} {Q : Exit → Act → World → Prop}
    (hg : o.guard = none) (s x : Operand) (t : TypeId) (hop : o.op = Op.call { callee := Callee.builtin Builtin.append, args := #[s, x], argTypes := #[t, t] })
    (sv xv : Value) (hs : a.eval s = sv) (hx : a.eval x = xv) (v' : Value) (w' : World) (hrun : (Builtin.append_ #[t, t] o.type #[sv, xv]).run P w = .ok v' w') (hK : K (a.put o.dst v') w') : Oper.wp P o a w K Q := by
  have := step_append_run (ops := #[]) (E := False) (Q := Q) hg s x t hop sv xv hs hx v' w' hrun hK
  have hw : Region.wanted o (yielded #[] a.tmps) = true := by simp [Region.wanted, hg]
  rw [if_pos hw] at this
  exact this

end Go.Proofs.YtjhkadffaephmabGreat

/-
  path.best; slices.Clone of any row; path.copied.
-/
namespace Go.Proofs.YtjhkadffaephmabGreat
set_option maxRecDepth 100000
open Go.RowKit

theorem append_zero (w : World) (ty : TypeId) (g : Nat) (ad : Option Addr) (q : Nat) :
    (Builtin.append_ #[32, 32] ty #[.slice (some ⟨g, 0, none⟩) 0 0, .slice ad 0 q]).run Tryz.prog w = .ok (.slice (some ⟨g, 0, none⟩) 0 0) w := by
  obtain ⟨i1, hi1, hy0, hy1, hy2⟩ := info_parts Tryz.infoInt
  cases ad <;> simp [Builtin.append_, run_underlying Tryz.underlying32, sizeOf, typeInfo, hi1, Builtin.lenOf, Builtin.firstCells, storeCells, loadCells, loadCellsFrom]

set_option maxHeartbeats 1000000 in
theorem clone_none (a : Option Addr) (q : Nat) (w : World) :
    Calls Tryz.prog 43 #[.slice a 0 q] w fun e w' => ∃ (a' : Option Addr) (c : Nat), e = .returned (.slice a' 0 c) ∧ Below w.heap.size w w' := by
  have HB := hide ((Below.refl w.heap.size w).alloc (Nat.le_refl _) (.cells #[] 3))
  cases a with
  | none =>
    have hnil := Lib.run_eql_slice_nil (P := Tryz.prog) w 32 3 none 0 q 0 0 Tryz.underlying32
    go_enter Tryz.func43, Tryz.ntmps43
    go_wp2
    go_ret
    exact ⟨none, 0, rfl, Below.refl _ _⟩
  | some ad =>
    have hnil := Lib.run_eql_slice_nil (P := Tryz.prog) w 32 3 (some ad) 0 q 0 0 Tryz.underlying32
    go_enter Tryz.func43, Tryz.ntmps43
    go_wp2_with (at_builtin; refine Lib.wpList_append_run _ rfl _ _ _ _ rfl _ _ rfl rfl _ _ (append_zero _ _ _ _ _) ?_)
    go_ret
    exact ⟨_, _, rfl, HB.out⟩

theorem clone_all (a : Option Addr) (p q b o : Nat) (f : Nat → Int) (w : World) (h : Ints a p b o f w) (hp1 : p ≤ 100) (hb : 0 < p → b < w.heap.size) :
    Calls Tryz.prog 43 #[.slice a p q] w fun e w' => (∃ (a' : Option Addr) (c b' : Nat), e = .returned (.slice a' p c) ∧ Ints a' p b' 0 f w' ∧ (0 < p → w.heap.size ≤ b' ∧ b' < w'.heap.size)) ∧ Below w.heap.size w w' := by
  by_cases hp : 0 < p
  · refine (clone_any a p q b o f w h hp hp1 (hb hp)).mono ?_
    rintro e w' ⟨g, c, rfl, h1, h2, h3, h4⟩
    exact ⟨⟨some ⟨g, 0, none⟩, c, g, rfl, ⟨fun _ => rfl, fun i hi => by rw [Nat.zero_add]; exact h4 i hi, h.len⟩, fun _ => ⟨h2, h3⟩⟩, h1⟩
  · obtain rfl : p = 0 := by omega
    refine (clone_none a q w).mono ?_
    rintro e w' ⟨a', c, rfl, hb'⟩
    exact ⟨⟨a', c, 0, rfl, ⟨fun h0 => absurd h0 (Nat.lt_irrefl _), fun i hi => absurd hi (Nat.not_lt_zero _), h.len⟩, fun h0 => absurd h0 (Nat.lt_irrefl _)⟩, hb'⟩

end Go.Proofs.YtjhkadffaephmabGreat

/-
  slices.Clone at mail; state.Copy of what was told.
-/
namespace Go.Proofs.YtjhkadffaephmabGreat
set_option maxRecDepth 100000
open Go.RowKit

theorem mails_at (M : Nat → Mail) (p i : Nat) (hi : i < p) : ((List.range p).map M).getD i noMail = M i := by
  simp [List.getD_eq_getElem?_getD, hi]

/-- What a bag holds, cell by cell. -/
theorem BagM.news {x : BagM} {N : Nat} {w : World} (h : x.In N w) (j : Nat) (u : Value) (hu : (mailsL ((List.range x.bn).map x.M))[j]? = some u) : w.cell? ⟨x.bb, x.bo + j, none⟩ = some u := by
  have hj : j < x.bn * 3 := by
    have := (List.getElem?_eq_some_iff.1 hu).1
    rw [mailsL_len] at this
    simpa using this
  have hq : j / 3 < x.bn := by omega
  obtain ⟨m0, m1, m2⟩ := mailsL_get ((List.range x.bn).map x.M) (j / 3) (by simpa using hq)
  rw [mails_at x.M x.bn (j / 3) hq] at m0 m1 m2
  have h3 : j = j / 3 * 3 ∨ j = j / 3 * 3 + 1 ∨ j = j / 3 * 3 + 2 := by omega
  rcases h3 with e | e | e
  · rw [e] at hu ⊢
    rw [m0] at hu; cases hu
    have := h.c0 (j / 3) hq
    exact this
  · rw [e] at hu ⊢
    rw [m1] at hu; cases hu
    exact h.c1 (j / 3) hq
  · rw [e] at hu ⊢
    rw [m2] at hu; cases hu
    exact h.c2 (j / 3) hq

theorem append_zeroM (w : World) (ty : TypeId) (g : Nat) (ad : Option Addr) (q : Nat) :
    (Builtin.append_ #[29, 29] ty #[.slice (some ⟨g, 0, none⟩) 0 0, .slice ad 0 q]).run Tryz.prog w = .ok (.slice (some ⟨g, 0, none⟩) 0 0) w := by
  obtain ⟨i0, hi0, hq⟩ : ∃ i, Tryz.prog.info? 69 = some i ∧ (i.zero.map (fun z => z.cells.size), i.size, i.bytes) = (some 3, 3, 32) := Option.map_eq_some_iff.1 Tryz.infoMail
  cases ad <;> simp [Builtin.append_, run_underlying Tryz.underlying29, sizeOf, typeInfo, hi0, Builtin.lenOf, Builtin.firstCells, storeCells, loadCells, loadCellsFrom]

theorem mailsL_one' (l : List Mail) : ∀ u ∈ mailsL l, u.oneCell' = true := fun u hu => by
  simp only [mailsL, List.mem_flatMap] at hu
  obtain ⟨m, _, hu⟩ := hu
  simp at hu
  rcases hu with rfl | rfl | rfl <;> rfl

set_option maxHeartbeats 1000000 in
theorem cloneMail_any (x : BagM) (w : World) (h : x.In w.heap.size w) (hl : x.bn ≤ 120) :
    Calls Tryz.prog 42 #[.slice x.ba x.bn x.bc] w fun e w' => (∃ v, e = .returned v ∧ w'.ownsRow w.heap.size 69 3 v ((List.range x.bn).map x.M).length (mailsL ((List.range x.bn).map x.M))) ∧ Below w.heap.size w w' := by
  obtain ⟨i0, hi0, hq⟩ : ∃ i, Tryz.prog.info? 69 = some i ∧ (i.zero.map (fun z => z.cells.size), i.size, i.bytes) = (some 3, 3, 32) := Option.map_eq_some_iff.1 Tryz.infoMail
  obtain ⟨z, hz, hzs⟩ : ∃ z, i0.zero = some z ∧ z.cells.size = 3 := by
    have := congrArg Prod.fst hq
    simpa [Option.map_eq_some_iff] using this
  have hsz : i0.size = 3 := congrArg (fun x => x.2.1) hq
  have hby : i0.bytes = 32 := congrArg (fun x => x.2.2) hq
  have hBa : Below w.heap.size w (w.alloc (.cells #[] 69)) := (Below.refl _ w).alloc (Nat.le_refl _) _
  have hown0 : World.ownsRow (w.alloc (.cells #[] 69)) w.heap.size 69 3 (.slice (some ⟨w.heap.size, 0, none⟩) 0 0) 0 [] :=
    World.ownsRow_made w #[] 0 (base := w.heap.size) (e := 69) (size := 3) (Nat.le_refl _) (Nat.zero_le _) (by simp)
  obtain ⟨ba, bn, bc, bb, bo, M⟩ := x
  have hl' : bn ≤ 120 := hl
  have HBa := hide hBa
  have Hown := hide hown0
  by_cases hp : 0 < bn
  · obtain rfl : ba = some ⟨bb, bo, none⟩ := h.ba hp
    have hnews : ∀ j u, (mailsL ((List.range bn).map M))[j]? = some u → (w.alloc (.cells #[] 69)).cell? ((⟨bb, bo, none⟩ : Addr).add j) = some u := fun j u hu => by
      rw [Go.WideShapes.add_plain]
      exact BagM.news (h.below hBa (Nat.le_refl _)) j u hu
    have hlen : (mailsL ((List.range bn).map M)).length = bn * 3 := by rw [mailsL_len]; simp
    have hnil := Lib.run_eql_slice_nil (P := Tryz.prog) w 29 69 (some ⟨bb, bo, none⟩) bn bc 0 0 Tryz.underlying29
    have Hnews := hide hnews
    have Hone := hide (mailsL_one' ((List.range bn).map M))
    have Hll : Hid (((List.range bn).map M).length = bn) := hide (by simp)
    show Calls Tryz.prog _ #[.slice (some ⟨bb, bo, none⟩) bn bc] w fun e w' => (∃ v, e = .returned v ∧ w'.ownsRow w.heap.size 69 3 v ((List.range bn).map M).length (mailsL ((List.range bn).map M))) ∧ Below w.heap.size w w'
    generalize (List.range bn).map M = l at *
    clear h hBa hown0 hnews hq hl
    go_enter Tryz.func42, Tryz.ntmps42
    go_wp2_with (at_builtin; refine wpList_append_lies _ rfl _ _ _ rfl w.heap.size 69 i0 z 3 32 Tryz.underlying29 hi0 hz hsz hby hzs (by decide) _ 0 [] rfl Hown.out ⟨bb, bo, none⟩ bn bc (mailsL l) rfl hlen Hnews.out Hone.out hp ?c3 ?c4 ?c5 _ rfl ?_)
    all_goals try (case c3 => unfold maxLen; omega)
    all_goals try (case c4 => omega)
    all_goals try (case c5 => simp)
    intro g c w' hown hgrow hat hlt
    have hB : Below w.heap.size w w' := HBa.out.grown hgrow (by simp) (fun k hk => by cases hk; exact Nat.le_refl _)
    have HF : Hid (w'.ownsRow w.heap.size 69 3 (.slice (some ⟨g, 0, none⟩) bn c) l.length (mailsL l)) := hide (by
      rw [Hll.out]
      simpa using hown)
    have HB := hide hB
    clear hown hgrow hat hlt hB
    go_wp2
    go_ret
    exact ⟨⟨_, rfl, HF.out⟩, HB.out⟩
  · obtain rfl : bn = 0 := by omega
    clear h hBa hown0 hq hl
    show Calls Tryz.prog _ #[.slice ba 0 bc] w fun e w' => (∃ v, e = .returned v ∧ w'.ownsRow w.heap.size 69 3 v 0 []) ∧ Below w.heap.size w w'
    cases ba with
    | none =>
      have hnil := Lib.run_eql_slice_nil (P := Tryz.prog) w 29 69 none 0 bc 0 0 Tryz.underlying29
      go_enter Tryz.func42, Tryz.ntmps42
      go_wp2
      go_ret
      exact ⟨⟨_, rfl, World.ownsRow_nil _ _ _ _⟩, Below.refl _ _⟩
    | some ad =>
      have hnil := Lib.run_eql_slice_nil (P := Tryz.prog) w 29 69 (some ad) 0 bc 0 0 Tryz.underlying29
      go_enter Tryz.func42, Tryz.ntmps42
      go_wp2_with (at_builtin; refine Lib.wpList_append_run _ rfl _ _ _ _ rfl _ _ rfl rfl _ _ (append_zeroM _ _ _ _ _) ?_)
      go_ret
      exact ⟨⟨_, rfl, Hown.out⟩, HBa.out⟩

/-- So many rows of what was told are copied. -/
structure CopT (lo T N : Nat) (x : Mat) (vt : Array Value) (k : Nat) (W : World) : Prop where
  blk : Blk W T vt 32
  size : vt.size = N
  row : ∀ r, r < k → ∃ (a : Option Addr) (c b : Nat), vt[r]? = some (.slice a (x.t.L r) c) ∧ Ints a (x.t.L r) b 0 (x.t.Z r) W ∧ (0 < x.t.L r → lo ≤ b ∧ b < W.heap.size ∧ b ≠ T)
theorem CopT.below {lo T N : Nat} {x : Mat} {vt : Array Value} {k : Nat} {W W' : World} (h : CopT lo T N x vt k W) (hb : Below W.heap.size W W') : CopT lo T N x vt k W' :=
  ⟨h.blk.below hb h.blk.lt, h.size, fun r hr => by
    obtain ⟨a, c, b, h1, h2, h3⟩ := h.row r hr
    exact ⟨a, c, b, h1, h2.below hb (fun h0 => (h3 h0).2.1), fun h0 => ⟨(h3 h0).1, Nat.lt_of_lt_of_le (h3 h0).2.1 hb.size, (h3 h0).2.2⟩⟩⟩
theorem Ints.setOther {a : Option Addr} {l b o : Nat} {f : Nat → Int} {W : World} {T j : Nat} {u : Value} (h : Ints a l b o f W) (hne : 0 < l → b ≠ T) : Ints a l b o f (W.setCell ⟨T, j, none⟩ u) :=
  ⟨h.addr, fun i hi => by rw [cell_other (hne (by omega))]; exact h.cell i hi, h.len⟩
theorem CopT.put {lo T N : Nat} {x : Mat} {vt : Array Value} {k : Nat} {W : World} (h : CopT lo T N x vt k W) (hk : k < N) {a : Option Addr} {c b : Nat} (hi : Ints a (x.t.L k) b 0 (x.t.Z k) W) (hb : 0 < x.t.L k → lo ≤ b ∧ b < W.heap.size ∧ b ≠ T) :
    CopT lo T N x (vt.setIfInBounds k (.slice a (x.t.L k) c)) (k + 1) (W.setCell ⟨T, k, none⟩ (.slice a (x.t.L k) c)) :=
  ⟨h.blk.set _ _, by simpa using h.size, fun r hr => by
    by_cases e : r = k
    · subst e
      exact ⟨a, c, b, Array.getElem?_setIfInBounds_self_of_lt (by rw [h.size]; exact hk), hi.setOther (fun h0 => (hb h0).2.2), fun h0 => ⟨(hb h0).1, by simpa using (hb h0).2.1, (hb h0).2.2⟩⟩
    · obtain ⟨a', c', b', h1, h2, h3⟩ := h.row r (by omega)
      exact ⟨a', c', b', by rw [Array.getElem?_setIfInBounds_ne (by omega)]; exact h1, h2.setOther (fun h0 => (h3 h0).2.2), fun h0 => ⟨(h3 h0).1, by simpa using (h3 h0).2.1, (h3 h0).2.2⟩⟩⟩

set_option maxHeartbeats 2000000 in
theorem copyT_any (x : Mat) (N : Nat) (w : World) (h : x.In w.heap.size w) (hl : x.t.len = N) (hw : ∀ r, r < N → x.t.L r ≤ 100) (hN : N ≤ 100) :
    Calls Tryz.prog 44 #[x.val] w fun e w' => (∃ T vt, e = .returned (.slice (some ⟨T, 0, none⟩) N N) ∧ w.heap.size ≤ T ∧ CopT w.heap.size T N x vt N w') ∧ Below w.heap.size w w' := by
  obtain ⟨i2, hi2, hx0, hx1, hx2⟩ := info_parts Tryz.infoInts
  have hmkA : ∀ u : World, (Instr.makeSlice 22 (.int .i64 (N : Int)) (.int .i64 (N : Int))).run Tryz.prog u = .ok (.slice (some ⟨u.heap.size, 0, none⟩) N N) (u.alloc (.cells (madeCells #[.slice none 0 0] N) 32)) := fun u => by
    have h := run_make (P := Tryz.prog) u 22 32 i2 (.slice none 0 0) Tryz.underlying22 hi2 hx0 .i64 .i64 (N : Int) (N : Int) (by omega) (Int.le_refl _) (by rw [hx2]; omega) (by omega)
    simpa [hx1, Value.cells] using h
  have H := hide h
  have HW := hide hw
  have HL := hide hl
  simp only [Mat.val, hl]
  clear h hw hl
  go_enter Tryz.func44, Tryz.ntmps44
  go_wp2_with fail
  go_loopw [4, 5, 11] (fun _ _ q wr => ∃ k : Nat, k ≤ N ∧ q = .int .i64 k ∧ Hid (Below w.heap.size w wr) ∧ Hid (∃ vt, CopT w.heap.size w.heap.size N x vt k wr)) (fun _ _ q _ => N - (intOf q).toNat)
  case atStart => exact ⟨0, Nat.zero_le _, rfl, hide ((Below.refl _ _).alloc (Nat.le_refl _) _), hide ⟨_, Blk.new w _ _, size_madeCells _ _, fun r hr => absurd hr (Nat.not_lt_zero _)⟩⟩
  case round =>
    obtain ⟨k, hk, rfl, HB, HM⟩ := hrel
    by_cases hlt : k < N
    · have hkl : k < x.t.len := by rw [HL.out]; exact hlt
      have hI := H.out.below HB.out (Nat.le_refl _)
      have hga := hI.ga (by omega)
      have hrow := hI.row k hkl
      have hii : Ints (x.A k) (x.t.L k) (x.RB k) (x.RO k) (x.t.Z k) wr := hI.ints hkl
      have HC := hide (clone_all (x.A k) (x.t.L k) (x.C k) (x.RB k) (x.RO k) (x.t.Z k) wr hii (HW.out k hlt) (fun h0 => Nat.lt_of_lt_of_le (hI.addr k hkl h0).2 HB.out.size))
      have hki : (k : Int) < (N : Int) := by omega
      obtain ⟨vt, hM⟩ := HM.out
      clear HM hii hI
      go_wp2_with fail
      go_at_call 43
      refine HC.out.mono ?_
      rintro e w2 ⟨⟨a', c', b', rfl, hz, hg⟩, hb2⟩
      have hM2 := hM.below hb2
      have o1 := hM2.blk.cell k
      have hkv : k < vt.size := by rw [hM.size]; exact hlt
      rw [Array.getElem?_eq_getElem hkv] at o1
      have of := hM2.blk.frozen k
      have HM3 : Hid (∃ vt, CopT w.heap.size w.heap.size N x vt (k + 1) (w2.setCell ⟨w.heap.size, k, none⟩ (.slice a' (x.t.L k) c'))) :=
        hide ⟨_, hM2.put hlt hz (fun h0 => by have := hg h0; have := HB.out.size; have := hM.blk.lt; exact ⟨by omega, by omega, by omega⟩)⟩
      have HB3 := hide ((HB.out.trans (hb2.mono HB.out.size)).setCell (p := ⟨w.heap.size, k, none⟩) (Nat.le_refl _) (.slice a' (x.t.L k) c'))
      clear hM hM2 hz hg hb2 HB HC
      go_wp2
      go_roundw
      case rel =>
        first
        | exact ⟨k + 1, by omega, by go_num, HB3, HM3⟩
        | ((try rw [← hga]); (repeat apply Exists.intro); refine ⟨?_, rfl⟩; exact ⟨k + 1, by omega, by go_num, HB3, HM3⟩)
      case measure => simp [intOf]; omega
    · have hkn : k = N := by omega
      subst hkn
      obtain ⟨vt, hM⟩ := HM.out
      have HF := hide hM
      clear hM HM
      go_wp2
      go_ret
      exact ⟨⟨_, _, rfl, Nat.le_refl _, HF.out⟩, HB.out⟩

end Go.Proofs.YtjhkadffaephmabGreat

/-
  engine.twice.
-/
namespace Go.Proofs.YtjhkadffaephmabGreat
set_option maxRecDepth 100000
open Go.RowKit

set_option maxHeartbeats 4000000 in
theorem twice_ok (base P N i : Nat) (e : Eng) (Bv : Value) (y : Lay) (w : World) (hL : Live base P N e Bv y w) (hi : i < e.bag.length) (hm : e.bag.length < 120) :
    Calls Tryz.prog 75 #[.pointer (some ⟨P, 0, none⟩), .int .i64 i] w fun r w' => r = .returned (.int .i64 0) ∧ (∃ Bv', Live base P N (e.twice i) Bv' y w') ∧ Below base w w' := by
  have hbw : base ≤ w.heap.size := Nat.le_of_lt (Nat.lt_of_le_of_lt hL.lp hL.head.lt)
  obtain ⟨g, cap, hBv, m0, m1, m2⟩ := hL.mail hi
  obtain ⟨g', cap', W4, hrun, hown, hgr, hat⟩ := append_mail w base Bv e.bag (e.bag.getD i noMail) hL.bag (by omega) hbw 29
  have hset := hL.setBag hgr hown (fun q hq => by
    have : q = g' := by simpa [Value.ownBlock] using hq.symm
    subst this; exact hat)
  have HF := hide (And.intro (Exists.intro (p := fun Bv' => Live base P N (e.twice i) Bv' y (W4.setCell ⟨P, 1, none⟩ (.slice (some ⟨g', 0, none⟩) (e.bag.length + 1) cap'))) _ hset) ((grown_below hgr (fun q hq => (hL.bag.lt q hq).1) hbw).setCell (p := ⟨P, 1, none⟩) hL.lp (.slice (some ⟨g', 0, none⟩) (e.bag.length + 1) cap')))
  have hP : Bv.ownBlock ≠ some P := fun e1 => (hL.bv P e1).1 rfl
  have hh4 : Blk W4 P #[.slice (some ⟨y.G, 0, none⟩) N y.gc, Bv] 31 := hL.head.kept hgr (fun e1 => hP e1.symm)
  have p1 := hL.head.cell 1
  have p1a : ∀ o, (w.alloc o).cell? ⟨P, 1, none⟩ = some Bv := fun o => by have := (hL.head.alloc o).cell 1; simpa using this
  have p4 := hh4.cell 1
  have pf := hh4.frozen 1
  have hglt : g < w.heap.size := (hL.bag.lt g (by rw [hBv]; rfl)).2
  have n0 : ∀ o, (w.alloc o).cell? ⟨g, i * 3, none⟩ = some (.int .i64 (e.bag.getD i noMail).F) := fun o => by rw [((Below.refl w.heap.size w).alloc (Nat.le_refl _) o).cell (p := ⟨g, i * 3, none⟩) hglt]; exact m0
  simp at p1 p4
  rw [hBv] at p1 p1a p4 hrun
  generalize e.bag.getD i noMail = m at *
  generalize e.bag.length = len at *
  have R1 := hide hrun
  have hil : (i : Int) < (len : Int) := by omega
  have hm' : ¬ (120 : Int) ≤ (len : Int) := by omega
  clear hrun hL hown hgr hat hset hBv hh4 hP hbw
  go_enter Tryz.func75, Tryz.ntmps75
  go_wp2
  go_region_law (refine step_append_run rfl (.tmp 15) (.tmp 23) 29 rfl (.slice (some ⟨g, 0, none⟩) len cap) (.slice (some ⟨w.heap.size, 0, none⟩) 1 1) (by simp [Act.eval]) (by simp [Act.eval]) (.slice (some ⟨g', 0, none⟩) (len + 1) cap') W4 R1.out ?_)
  all_goals
    go_wp2
    go_ret
    exact ⟨rfl, HF.out⟩

end Go.Proofs.YtjhkadffaephmabGreat

/-
  engine.look.
-/
namespace Go.Proofs.YtjhkadffaephmabGreat
set_option maxRecDepth 100000
open Go.RowKit

theorem calls_look1 (args : Array Value) (W : World) : (callFunc 90 args).run Tryz.prog W = .ok (.enter 90 args) W := by rfl

set_option maxHeartbeats 1000000 in
theorem look1_any (b6 b3 Tb Tc N v j db dn tc : Nat) (ta : Option Addr) (s D : Int) (told : Bool) (W : World) (hs : 2 ≤ s) (hs2 : s ≤ 24) (hN : N ≤ 6) (hN0 : 0 < N)
    (h6 : W.cell? ⟨b6, 0, none⟩ = some (.slice (some ⟨Tb, 0, none⟩) N Tc)) (h3 : W.cell? ⟨b3, 0, none⟩ = some (.int .i64 s)) (hv : v < N) (hj : j < N)
    (ht : W.cell? ⟨Tb, v, none⟩ = some (.slice ta (if told = true then N else 0) tc)) (hd : told = true → ta = some ⟨db, dn, none⟩ ∧ W.cell? ⟨db, dn + j, none⟩ = some (.int .i64 D)) :
    Calls Tryz.prog 90 #[.int .i64 v, .int .i64 j, .pointer (some ⟨b6, 0, none⟩), .pointer (some ⟨b3, 0, none⟩)] W fun e w' => e = .returned (.int .i64 (if told = true then D else s - 1)) ∧ ∃ m, w' = W.drewN m := by
  have hvi : (v : Int) < (N : Int) := by omega
  have hji : (j : Int) < (N : Int) := by omega
  cases told with
  | true =>
    obtain ⟨e1, e2⟩ := hd rfl
    subst e1
    simp only [if_true] at ht ⊢
    have hn0 : ((N : Int) == 0) = false := by simp; omega
    go_enter Tryz.func90, Tryz.ntmps90
    go_wp2
    go_ret
    exact ⟨rfl, 0, rfl⟩
  | false =>
    simp only [Bool.false_eq_true, if_false] at ht ⊢
    clear hd
    go_enter Tryz.func90, Tryz.ntmps90
    go_wp2
    go_ret
    exact ⟨rfl, 0, rfl⟩

/-- What stands all through the store of a router's routes. -/
structure LookG (base P N : Nat) (e : Eng) (Bv : Value) (y : Lay) (w1 W : World) : Prop where
  live : Live base P N e Bv y W
  below : Below w1.heap.size w1 W
theorem LookG.keep {base P N : Nat} {e : Eng} {Bv : Value} {y : Lay} {w1 W W' : World} (h : LookG base P N e Bv y w1 W) (hb : Below W.heap.size W W') : LookG base P N e Bv y w1 W' := ⟨h.live.below hb, h.below.trans (hb.mono h.below.size)⟩

/-- What the operations ahead of the store leave. -/
def lookEv (vs : List Value) (N : Nat) (f : Nat → Int) (w1 : World) (k : Nat) (v : Value) (W : World) : Prop :=
  if k = 8 then ∃ g : Nat, v = .slice (some ⟨g, 0, none⟩) N N ∧ w1.heap.size ≤ g ∧ g < W.heap.size ∧ ∀ j, j < N → W.cell? ⟨g, j, none⟩ = some (.int .i64 (f j))
  else vs[k]? = some v
theorem lookEv_keep {vs : List Value} {N : Nat} {f : Nat → Int} {w1 : World} {k : Nat} {v : Value} {W W' : World} (hb : Below W.heap.size W W') (h : lookEv vs N f w1 k v W) : lookEv vs N f w1 k v W' := by
  unfold lookEv at h ⊢
  split
  · next e =>
    rw [if_pos e] at h
    obtain ⟨g, h1, h2, h3, h4⟩ := h
    exact ⟨g, h1, h2, Nat.lt_of_lt_of_le h3 hb.size, fun j hj => by rw [hb.cell (p := ⟨g, j, none⟩) h3]; exact h4 j hj⟩
  · next e =>
    rw [if_neg e] at h
    exact h
theorem lookEv_get {vs : List Value} {N : Nat} {f : Nat → Int} {w1 : World} {k : Nat} {v u : Value} {W : World} (h : lookEv vs N f w1 k v W) (hk : k ≠ 8) (hu : vs[k]? = some u) : v = u := by
  unfold lookEv at h
  rw [if_neg hk, hu] at h
  exact (Option.some.inj h).symm

/-- Blocks of others are as they were. -/
def Kept (y : Lay) (P N : Nat) (Bv : Value) (w w' : World) : Prop := ∀ b, y.Off P N Bv w b → w'.heap[b]? = w.heap[b]?
theorem Kept.blk {y : Lay} {P N : Nat} {Bv : Value} {w w' : World} (h : Kept y P N Bv w w') {b : Nat} {cs : Array Value} {t : TypeId} (ho : y.Off P N Bv w b) (hb : Blk w b cs t) : Blk w' b cs t := by
  have := h b ho
  unfold Blk at hb ⊢
  rw [this]; exact hb

set_option maxHeartbeats 4000000 in
theorem engLook_all (n : NetM) (base P N at_ : Nat) (e : Eng) (Bv : Value) (y : Lay) (w : World) (h : n.In base w) (hck : n.net.check = 0) (hN : n.nodes = N) (hL : Live base P N e Bv y w) (hfit : e.Fit n.net) (hat : at_ < N) :
    Calls Tryz.prog 71 #[n.val, .pointer (some ⟨P, 0, none⟩), .int .i64 at_] w fun r w' => r = .returned (.tuple #[]) ∧ (∃ y', Live base P N (e.look n.net at_) Bv y' w' ∧ y'.G = y.G ∧ y'.Tb = y.Tb ∧ y'.lo = y.lo) ∧ Below base w w' ∧ Kept y P N Bv w w' := by
  have g := Net.good_of_check hck
  have hs0 : 2 ≤ n.a.size := g.law.good.lo
  have hs1 : n.a.size ≤ 24 := g.law.good.hi
  have hi6 := g.hi
  have hNN : n.net.N = N := by show n.nodes.toNat = N; omega
  have hN6 : N ≤ 6 := by have : n.net.nodes = n.nodes := rfl; omega
  have hbw : base ≤ w.heap.size := Nat.le_of_lt (Nat.lt_of_le_of_lt hL.lp hL.head.lt)
  have hcells : n.cells = #[.int .i64 n.a.size, .slice n.a.B.ga n.a.B.t.len n.a.B.cap, .slice n.a.E.ga n.a.E.t.len n.a.E.cap, .int .i64 N, .slice n.la n.ln n.lc] := by simp only [NetM.cells, Mat.val, hN]
  have x0 := hL.head.cell 0
  have x1 := hL.rtrs.cell (at_ * 2 + 1)
  rw [hL.r1 at_ hat] at x1
  simp at x0
  have hai : (at_ : Int) < (N : Int) := by omega
  obtain ⟨W1, hW1⟩ : ∃ W1, W1 = (w.alloc (.cells n.cells 27)).alloc (.cells #[.slice (some ⟨y.Tb at_, 0, none⟩) N (y.Tc at_)] 22) := ⟨_, rfl⟩
  have hB1 : Below w.heap.size w W1 := by rw [hW1]; exact ((Below.refl _ w).alloc (Nat.le_refl _) _).alloc (by simp) _
  have b3 : Blk W1 w.heap.size n.cells 27 := by rw [hW1]; exact (Blk.new w _ _).alloc _
  have b6 : Blk W1 (w.heap.size + 1) #[.slice (some ⟨y.Tb at_, 0, none⟩) N (y.Tc at_)] 22 := by rw [hW1]; exact Blk.new' (by simp)
  have HL1 := hide (hL.below hB1)
  have x0a : ∀ o, (w.alloc o).cell? ⟨P, 0, none⟩ = some (.slice (some ⟨y.G, 0, none⟩) N y.gc) := fun o => by have := (hL.head.alloc o).cell 0; simpa using this
  have x1a : ∀ o, (w.alloc o).cell? ⟨y.G, at_ * 2 + 1, none⟩ = some (.slice (some ⟨y.Tb at_, 0, none⟩) N (y.Tc at_)) := fun o => by rw [(hL.rtrs.alloc o).cell]; exact hL.r1 at_ hat
  have H := hide h
  have HB1 := hide hB1
  have Hb3 := hide b3
  have Hb6 := hide b6
  have Hcells := hide hcells
  have Hbw := hide hbw
  have Hfit := hide hfit
  rw [hcells] at hW1
  simp only [NetM.val, hcells]
  clear h hL hB1 b3 b6 hcells hfit hN hbw x0 x1
  go_enter Tryz.func71, Tryz.ntmps71
  go_wp2
  rw [← hW1]
  clear hW1 x0a x1a
  have HLk := hide (fun (W : World) (hG : LookG base P N e Bv y W1 W) => look_any 90 #[.pointer (some ⟨w.heap.size + 1, 0, none⟩), .pointer (some ⟨w.heap.size, 0, none⟩)] n at_ (fun j v => e.has n.net at_ v j) W
    (((H.out.below HB1.out Hbw.out).below hG.below (Nat.le_trans Hbw.out HB1.out.size)).mono (Nat.le_trans (Nat.le_trans Hbw.out HB1.out.size) hG.below.size)) hck (fun j hj => Hfit.out.has g (by rw [hNN]; exact hat) hj) calls_look1 (fun v j W' hv hj hb => by
      rw [hNN] at hv hj
      have hL2 := hG.live.below hb
      have q6 := ((Hb6.out.below hG.below Hb6.out.lt).below hb (Nat.lt_of_lt_of_le Hb6.out.lt hG.below.size)).cell 0
      have q3 := ((Hb3.out.below hG.below Hb3.out.lt).below hb (Nat.lt_of_lt_of_le Hb3.out.lt hG.below.size)).cell 0
      have qt := (hL2.tolds at_ hat).cell v
      rw [hL2.t0 at_ hat v hv] at qt
      exact look1_any (w.heap.size + 1) w.heap.size (y.Tb at_) (y.Tc at_) N v j (y.db at_ v) (y.dn at_ v) (y.tc at_ v) (y.ta at_ v) n.a.size (e.D at_ v j) (e.told at_ v) W' hs0 hs1 hN6 (by omega) (by simpa using q6) (by simpa [NetM.cells] using q3) hv hj qt (fun ht => ⟨(hL2.rows at_ hat v hv ht).1, (hL2.rows at_ hat v hv ht).2.2 j hj⟩)))
  rw [hNN] at HLk
  simp only [NetM.val, Hcells.out] at HLk
  refine wp_region_last 11 _ (LookG base P N e Bv y W1)
    (lookEv [.pointer (some ⟨P, 0, none⟩), .pointer (some ⟨P, 0, none⟩), .pointer (some ⟨P, 0, none⟩), .slice (some ⟨y.G, 0, none⟩) N y.gc, .int .i64 at_, n.val, .int .i64 at_, .func (.func 90) #[] #[.pointer (some ⟨w.heap.size + 1, 0, none⟩), .pointer (some ⟨w.heap.size, 0, none⟩)], undef, .pointer (some ⟨y.G, at_ * 2, none⟩), .pointer (some ⟨y.G, at_ * 2, none⟩)] N (fun j => n.net.route at_ j (fun k => e.has n.net at_ k j)) W1)
    (fun _ W => (∃ y', Live base P N (e.look n.net at_) Bv y' W ∧ y'.G = y.G ∧ y'.Tb = y.Tb ∧ y'.lo = y.lo) ∧ Below base w W ∧ Kept y P N Bv w W) (fun _ _ _ => True) (by kernel_rfl) (by kernel_rfl) (by kernel_rfl) (by kernel_rfl) (by kernel_rfl) rfl (LookG.keep ⟨HL1.out, Below.refl _ _⟩ ⟨rfl, rfl, rfl, Nat.le_refl _, fun _ _ => rfl⟩) ⟨?_, ?_, ?_, ?_, ?_, ?_, ?_, ?_, ?_, ?_, ?_, trivial⟩ ?_ trivial ?_
  rotate_right
  · intro t W hG _
    have HG := hide hG
    clear hG
    simp only [fill, Act.put, List.setIfInBounds_toArray, List.set_cons_zero, List.set_cons_succ]
    go_end0
    exact ⟨rfl, HG.out.1, HG.out.2⟩
  rotate_right
  · intro t W hG hE _ K hK
    have e10 := lookEv_get (hE 10 (by omega)) (by decide) rfl
    have h8 : ∃ g : Nat, t 8 = .slice (some ⟨g, 0, none⟩) N N ∧ W1.heap.size ≤ g ∧ g < W.heap.size ∧ ∀ j, j < N → W.cell? ⟨g, j, none⟩ = some (.int .i64 (n.net.route at_ j (fun k => e.has n.net at_ k j))) := hE 8 (by omega)
    simp only [fill, Act.put, List.setIfInBounds_toArray, List.set_cons_zero, List.set_cons_succ, e10] at hK ⊢
    rw [if_pos (by rfl)]
    obtain ⟨gg, e8, hg1, hg2, hgc⟩ := h8
    have c1 := hG.live.rtrs.cell (at_ * 2)
    rw [hG.live.r0 at_ hat] at c1
    have cf := hG.live.rtrs.frozen (at_ * 2)
    have hl1 := HL1.out
    have hoff : y.Off P N Bv W gg := ⟨by have := hl1.head.lt; omega, by have := hl1.rtrs.lt; omega, fun k hk => by have := (hl1.tolds k hk).lt; omega, fun hv => by have := (hl1.bag.lt _ hv).2; omega, hg2, by have := hl1.ylo; have := hl1.head.lt; omega⟩
    have hN' : (∃ y', Live base P N (e.look n.net at_) Bv y' (W.setCell ⟨y.G, at_ * 2, none⟩ (.slice (some ⟨gg, 0, none⟩) N N)) ∧ y'.G = y.G ∧ y'.Tb = y.Tb ∧ y'.lo = y.lo) ∧ Below base w (W.setCell ⟨y.G, at_ * 2, none⟩ (.slice (some ⟨gg, 0, none⟩) N N)) ∧ Kept y P N Bv w (W.setCell ⟨y.G, at_ * 2, none⟩ (.slice (some ⟨gg, 0, none⟩) N N)) := by
      have hset := hG.live.setRoutes (c := N) hat (fun j => n.net.route at_ j (fun k => e.has n.net at_ k j)) hoff hgc
      have he : (e.look n.net at_) = { e with R := fun r => if r = at_ then (fun j => n.net.route at_ j (fun k => e.has n.net at_ k j)) else e.R r } := by
        unfold Eng.look
        congr 1
        funext r j
        by_cases e1 : r = at_
        · rw [if_pos e1, if_pos e1]
        · rw [if_neg e1, if_neg e1]
      rw [he]
      refine ⟨⟨_, hset, rfl, rfl, rfl⟩, (((HB1.out.mono Hbw.out).trans (hG.below.mono (Nat.le_trans Hbw.out HB1.out.size))).setCell (p := ⟨y.G, at_ * 2, none⟩) hG.live.lg _), fun b hb => ?_⟩
      rw [Below.heap_setCell _ _ _ _ hb.g, hG.below.block b (Nat.lt_of_lt_of_le hb.lt HB1.out.size), HB1.out.block b hb.lt]
    simp only [e8] at hK ⊢
    go_simp
    exact hK undef _ hN'
  all_goals intro t W hG hp ht K hK
  all_goals clear ht
  all_goals simp only [fill, Act.put, List.setIfInBounds_toArray, List.set_cons_zero, List.set_cons_succ] at hK ⊢
  all_goals rw [if_pos (by rfl)]
  · go_simp
    exact hK _ W hG rfl (fun _ _ _ h => h)
  · have e0 := lookEv_get (hp 0 (by decide)) (by decide) rfl
    simp only [e0] at hK ⊢
    go_simp
    exact hK _ W hG rfl (fun _ _ _ h => h)
  · have e1 := lookEv_get (hp 1 (by decide)) (by decide) rfl
    simp only [e1] at hK ⊢
    go_simp
    exact hK _ W hG rfl (fun _ _ _ h => h)
  · have e2 := lookEv_get (hp 2 (by decide)) (by decide) rfl
    have c0 := hG.live.head.cell 0
    simp at c0
    simp only [e2] at hK ⊢
    go_simp
    exact hK _ W hG rfl (fun _ _ _ h => h)
  · go_simp
    exact hK _ W hG rfl (fun _ _ _ h => h)
  · have bN := Hb3.out.below hG.below Hb3.out.lt
    have x0 := bN.cell 0
    have x1 := bN.cell 1
    have x2 := bN.cell 2
    have x3 := bN.cell 3
    have x4 := bN.cell 4
    simp [Hcells.out] at x0 x1 x2 x3 x4
    go_simp
    exact hK _ W hG (by show some n.val = _; rw [NetM.val, Hcells.out]) (fun _ _ _ h => h)
  · go_simp
    exact hK _ W hG rfl (fun _ _ _ h => h)
  · go_simp
    exact hK _ W hG rfl (fun _ _ _ h => h)
  · have e5 := lookEv_get (hp 5 (by decide)) (by decide) rfl
    have e6 := lookEv_get (hp 6 (by decide)) (by decide) rfl
    have e7 := lookEv_get (hp 7 (by decide)) (by decide) rfl
    rw [NetM.val, Hcells.out] at e5
    simp only [e5, e6, e7] at hK ⊢
    go_simp
    go_at_call 89
    refine (HLk.out W hG).mono ?_
    rintro r W' ⟨rfl, hb, hlt, hz⟩
    go_simp
    exact hK _ W' (hG.keep hb) ⟨W.heap.size + 1, rfl, by have := hG.below.size; omega, hlt, hz⟩ (fun _ _ _ h => lookEv_keep hb h)
  · have e3 := lookEv_get (hp 3 (by decide)) (by decide) rfl
    have e4 := lookEv_get (hp 4 (by decide)) (by decide) rfl
    simp only [e3, e4] at hK ⊢
    go_simp
    exact hK _ W hG rfl (fun _ _ _ h => h)
  · have e9 := lookEv_get (hp 9 (by decide)) (by decide) rfl
    simp only [e9] at hK ⊢
    go_simp
    exact hK _ W hG rfl (fun _ _ _ h => h)

theorem engLook_any (n : NetM) (base P N at_ : Nat) (e : Eng) (Bv : Value) (y : Lay) (w : World) (h : n.In base w) (hck : n.net.check = 0) (hN : n.nodes = N) (hL : Live base P N e Bv y w) (hfit : e.Fit n.net) (hat : at_ < N) :
    Calls Tryz.prog 71 #[n.val, .pointer (some ⟨P, 0, none⟩), .int .i64 at_] w fun r w' => r = .returned (.tuple #[]) ∧ (∃ y', Live base P N (e.look n.net at_) Bv y' w') ∧ Below base w w' := by
  refine (engLook_all n base P N at_ e Bv y w h hck hN hL hfit hat).mono ?_
  rintro r w' ⟨h1, ⟨y', h2, _⟩, h3, _⟩
  exact ⟨h1, ⟨y', h2⟩, h3⟩

end Go.Proofs.YtjhkadffaephmabGreat
