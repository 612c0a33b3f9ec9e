/-
  Our own texts, bundled: a claim holds few files.
-/
import Derived.Test.YtjhkadffaephmabGreatCutEnginePlaysAH
import Derived.Test.YtjhkadffaephmabGreatCutEnginePlaysAI
import Derived.Test.YtjhkadffaephmabGreatCutEnginePlaysAB
import Derived.Test.YtjhkadffaephmabGreatCutEnginePlaysAA
/-
  net.Begin.
-/
namespace Go.Proofs.YtjhkadffaephmabGreat
set_option maxRecDepth 100000
open Go.RowKit

/-- i rows are made, and k numbers of the next. -/
structure MadeJ (lo ob : Nat) (g c : Nat → Nat) (p n : Nat) (Z : Nat → Nat → Int) (i k : Nat) (W : World) : Prop where
  out : Blk W ob (outG g c p n (i + 1)) 32
  base : lo ≤ ob
  rows : ∀ r, r < i → lo ≤ g r ∧ g r < W.heap.size ∧ g r ≠ ob ∧ g r ≠ g i ∧ ∀ j, j < p → W.cell? ⟨g r, j, none⟩ = some (.int .i64 (Z r j))
  cur : Blk W (g i) (rowArr (Z i) p k) 3
  own : lo ≤ g i ∧ g i ≠ ob
  room : c i = p

theorem MadeI.row {lo ob : Nat} {g c : Nat → Nat} {p n : Nat} {Z : Nat → Nat → Int} {i : Nat} {W : World} (h : MadeI lo ob g c p n Z i W) (hlo : lo ≤ W.heap.size) :
    MadeJ lo ob (updN g i W.heap.size) (updN c i p) p n Z i 0 ((W.alloc (.cells (madeCells #[.int .i64 0] p) 3)).setCell ⟨ob, i, none⟩ (.slice (some ⟨W.heap.size, 0, none⟩) p p)) where
  out := by have := (h.out.alloc (.cells (madeCells #[.int .i64 0] p) 3)).set i (.slice (some ⟨W.heap.size, 0, none⟩) p p); rw [outG_set] at this; exact this
  base := h.base
  rows := fun r hr => by
    rw [updN_other g _ (by omega), updN_same]
    obtain ⟨h1, h2, h3, h4⟩ := h.rows r hr
    refine ⟨h1, by simp; omega, h3, by omega, fun j hj => ?_⟩
    rw [cell_other h3, ((Below.refl _ W).alloc (Nat.le_refl _) _).cell (p := ⟨g r, j, none⟩) h2]
    exact h4 j hj
  cur := by
    rw [updN_same, rowArr_zero (Z i) p]
    exact (Blk.new W _ _).other (by have := h.out.lt; omega) _ _
  own := by rw [updN_same]; exact ⟨hlo, by have := h.out.lt; omega⟩
  room := updN_same _ _ _

theorem MadeJ.below {lo ob : Nat} {g c : Nat → Nat} {p n i k : Nat} {Z : Nat → Nat → Int} {W W' : World} (h : MadeJ lo ob g c p n Z i k W) (hb : Below W.heap.size W W') : MadeJ lo ob g c p n Z i k W' where
  out := h.out.below hb h.out.lt
  base := h.base
  rows := fun r hr => by
    obtain ⟨h1, h2, h3, h4, h5⟩ := h.rows r hr
    exact ⟨h1, Nat.lt_of_lt_of_le h2 hb.size, h3, h4, fun j hj => by rw [hb.cell (p := ⟨g r, j, none⟩) h2]; exact h5 j hj⟩
  cur := h.cur.below hb h.cur.lt
  own := h.own
  room := h.room

theorem MadeJ.put {lo ob : Nat} {g c : Nat → Nat} {p n i k : Nat} {Z : Nat → Nat → Int} {W : World} (h : MadeJ lo ob g c p n Z i k W) :
    MadeJ lo ob g c p n Z i (k + 1) (W.setCell ⟨g i, k, none⟩ (.int .i64 (Z i k))) where
  out := h.out.other (Ne.symm h.own.2) _ _
  base := h.base
  rows := fun r hr => by
    obtain ⟨h1, h2, h3, h4, h5⟩ := h.rows r hr
    exact ⟨h1, by simpa using h2, h3, h4, fun j hj => by rw [cell_other h4]; exact h5 j hj⟩
  cur := by have := h.cur.set k (.int .i64 (Z i k)); rw [rowArr_set] at this; exact this
  own := h.own
  room := h.room

theorem MadeJ.done {lo ob : Nat} {g c : Nat → Nat} {p n i : Nat} {Z : Nat → Nat → Int} {W : World} (h : MadeJ lo ob g c p n Z i p W) : MadeI lo ob g c p n Z (i + 1) W where
  out := h.out
  base := h.base
  rows := fun r hr => by
    by_cases e : r = i
    · subst e
      exact ⟨h.own.1, h.cur.lt, h.own.2, fun j hj => by rw [h.cur.cell j, rowArr_get hj, if_pos hj]⟩
    · obtain ⟨h1, h2, h3, _, h5⟩ := h.rows r (by omega)
      exact ⟨h1, h2, h3, h5⟩

/-- What an operation leaves, whatever the world. -/
def valsE (vs : List Value) (k : Nat) (v : Value) (_ : World) : Prop := vs[k]? = some v
theorem valsE_get {vs : List Value} {k : Nat} {v u : Value} {w : World} (h : valsE vs k v w) (hu : vs[k]? = some u) : v = u := by
  unfold valsE at h
  rw [h] at hu
  exact Option.some.inj hu

/-- What stands all through a round of Begin's inner loop. -/
structure BegI (lo : Nat) (w1 : World) (N : Nat) (Z : Nat → Nat → Int) (g c : Nat → Nat) (i k : Nat) (W : World) : Prop where
  below : Below w1.heap.size w1 W
  made : MadeJ lo w1.heap.size g c N N Z i k W

theorem BegI.keep {lo : Nat} {w1 : World} {N : Nat} {Z : Nat → Nat → Int} {g c : Nat → Nat} {i k : Nat} {W W' : World} (h : BegI lo w1 N Z g c i k W) (hb : Below W.heap.size W W') : BegI lo w1 N Z g c i k W' :=
  ⟨h.below.trans (hb.mono h.below.size), h.made.below hb⟩

set_option maxHeartbeats 4000000 in
theorem filled_any (fid : Nat) (cap : Array Value) (N : Nat) (Z : Nat → Nat → Int) (w : World) (hN0 : 1 ≤ N) (hN6 : N ≤ 6)
    (hcf : ∀ (args : Array Value) (W : World), (callFunc fid args).run Tryz.prog W = .ok (.enter fid args) W)
    (hat : ∀ (i j : Nat) (W : World), i < N → j < N → Below w.heap.size w W → Calls Tryz.prog fid (#[.int .i64 i, .int .i64 j] ++ cap) W fun e w' => e = .returned (.int .i64 (Z i j)) ∧ Below W.heap.size W w') :
    Calls Tryz.prog 47 #[.int .i64 N, .func (.func fid) #[] cap] w fun e w' => (∃ m : Mat, e = .returned m.val ∧ Fresh N w.heap.size Z m w') ∧ Below w.heap.size w w' := by
  obtain ⟨i1, hi1, hy0, hy1, hy2⟩ := info_parts Tryz.infoInt
  obtain ⟨i2, hi2, hx0, hx1, hx2⟩ := info_parts Tryz.infoInts
  have hmkA : ∀ u : World, (Instr.makeSlice 22 (.int .i64 (N : Int)) (.int .i64 (N : Int))).run Tryz.prog u = .ok (.slice (some ⟨u.heap.size, 0, none⟩) N N) (u.alloc (.cells (madeCells #[.slice none 0 0] N) 32)) := fun u => by
    have h := run_make (P := Tryz.prog) u 22 32 i2 (.slice none 0 0) Tryz.underlying22 hi2 hx0 .i64 .i64 (N : Int) (N : Int) (by omega) (Int.le_refl _) (by rw [hx2]; omega) (by omega)
    simpa [hx1, Value.cells] using h
  have hmkB : ∀ u : World, (Instr.makeSlice 32 (.int .i64 (N : Int)) (.int .i64 (N : Int))).run Tryz.prog u = .ok (.slice (some ⟨u.heap.size, 0, none⟩) N N) (u.alloc (.cells (madeCells #[.int .i64 0] N) 3)) := fun u => by
    have h := run_make (P := Tryz.prog) u 32 3 i1 (.int .i64 0) Tryz.underlying32 hi1 hy0 .i64 .i64 (N : Int) (N : Int) (by omega) (Int.le_refl _) (by rw [hy2]; omega) (by omega)
    simpa [hy1, Value.cells] using h
  have HO := hide hat
  clear hat
  go_enter Tryz.func47, Tryz.ntmps47
  go_wp2_with fail
  go_loopw [6, 7, 12] (fun _ _ q wr => ∃ k : Nat, k ≤ N ∧ q = .int .i64 k ∧ Hid (Below w.heap.size w wr) ∧ Hid (∃ g c : Nat → Nat, MadeI w.heap.size w.heap.size g c N N Z k wr)) (fun _ _ q _ => N - (intOf q).toNat)
  case atStart => exact ⟨0, Nat.zero_le _, rfl, hide ((Below.refl _ _).alloc (Nat.le_refl _) _), hide ⟨_, _, MadeI.start w w.heap.size N N Z (by omega)⟩⟩
  case round =>
    obtain ⟨i, hi, rfl, HB, HM⟩ := hrel
    by_cases hlt : i < N
    · obtain ⟨g, c, hM⟩ := HM.out
      have hsz := HB.out.size
      have hMr := hM.row (by omega)
      have o0 : ∀ o, (wr.alloc o).cell? ⟨w.heap.size, i, none⟩ = some (.slice none 0 0) := fun o => by
        have := (hM.out.alloc o).cell i
        rw [outG_get hlt, if_neg (Nat.lt_irrefl _)] at this
        exact this
      have of : ∀ o, (wr.alloc o).frozen? ⟨w.heap.size, i, none⟩ = false := fun o => (hM.out.alloc o).frozen i
      have hii : (i : Int) < (N : Int) := by omega
      have hm0 := hMr.out.cell i
      rw [outG_get hlt, if_pos (by omega), updN_same, updN_same] at hm0
      have HR : Hid (BegI w.heap.size w N Z (updN g i wr.heap.size) (updN c i N) i 0 ((wr.alloc (.cells (madeCells #[.int .i64 0] N) 3)).setCell ⟨w.heap.size, i, none⟩ (.slice (some ⟨wr.heap.size, 0, none⟩) N N))) :=
        hide ⟨(HB.out.alloc HB.out.size _).setCell (p := ⟨w.heap.size, i, none⟩) (Nat.le_refl _) _, hMr⟩
      have Hg : Hid (updN g i wr.heap.size i = wr.heap.size) := hide (updN_same _ _ _)
      generalize updN g i wr.heap.size = g' at *
      generalize updN c i N = c' at *
      clear hM hMr HM
      go_wp2_with fail
      obtain ⟨wq, hwq⟩ : ∃ wq, wq = wr.heap.size := ⟨_, rfl⟩
      clear o0 of hm0
      rw [← hwq] at Hg
      simp only [← hwq] at *
      clear hwq
      go_loopw [7, 25] (fun _ q wx => ∃ k : Nat, k ≤ N ∧ q = .int .i64 k ∧ Hid (BegI w.heap.size w N Z g' c' i k wx)) (fun _ q _ => N - (intOf q).toNat)
      case atStart => exact ⟨0, Nat.zero_le _, rfl, HR⟩
      case round =>
        obtain ⟨k, hk, rfl, HJ⟩ := hrel
        by_cases hkl : k < N
        · have hki : (k : Int) < (N : Int) := by omega
          go_wp2_with fail
          refine wp_region_last 10 _ (BegI w.heap.size w N Z g' c' i k)
            (valsE [.slice (some ⟨w.heap.size, 0, none⟩) N N, .int .i64 i, .pointer (some ⟨w.heap.size, i, none⟩), .slice (some ⟨g' i, 0, none⟩) N N, .int .i64 k, .func (.func fid) #[] cap, .int .i64 i, .int .i64 k, .int .i64 (Z i k), .pointer (some ⟨g' i, k, none⟩)])
            (fun _ W => BegI w.heap.size w N Z g' c' i (k + 1) W) (fun _ _ _ => True) (by kernel_rfl) (by kernel_rfl) (by kernel_rfl) (by kernel_rfl) (by kernel_rfl) rfl (HJ.out.keep ⟨rfl, rfl, rfl, Nat.le_refl _, fun _ _ => rfl⟩) ⟨?_, ?_, ?_, ?_, ?_, ?_, ?_, ?_, ?_, ?_, trivial⟩ ?_ trivial ?_
          rotate_right
          · intro t W hG _
            have HG := hide hG
            clear hG
            simp only [fill, Act.put, List.setIfInBounds_toArray, List.set_cons_zero, List.set_cons_succ]
            go_wp2
            go_roundw
            case rel =>
              first
              | exact ⟨k + 1, by omega, by go_num, HG⟩
              | ((repeat apply Exists.intro); refine ⟨?_, rfl⟩; exact ⟨k + 1, by omega, by go_num, HG⟩)
            case measure => simp [intOf]; omega
          rotate_right
          · intro t W hG hE _ K hK
            have e8 := valsE_get (hE 8 (by omega)) rfl
            have e9 := valsE_get (hE 9 (by omega)) rfl
            have c1 := hG.made.cur.cell k
            rw [rowArr_get hkl, if_neg (Nat.lt_irrefl _)] at c1
            have cf := hG.made.cur.frozen k
            have hN' : BegI w.heap.size w N Z g' c' i (k + 1) (W.setCell ⟨g' i, k, none⟩ (.int .i64 (Z i k))) := ⟨hG.below.setCell (p := ⟨g' i, k, none⟩) (by rw [Hg.out]; exact hsz) _, hG.made.put⟩
            simp only [fill, Act.put, List.setIfInBounds_toArray, List.set_cons_zero, List.set_cons_succ, e8, e9] at hK ⊢
            rw [if_pos (by rfl)]
            go_simp
            exact hK undef _ hN'
          all_goals intro t W hG hp _ K hK
          all_goals simp only [fill, Act.put, List.setIfInBounds_toArray, List.set_cons_zero, List.set_cons_succ] at hK ⊢
          all_goals rw [if_pos (by rfl)]
          · go_simp
            exact hK _ W hG rfl (fun _ _ _ h => h)
          · go_simp
            exact hK _ W hG rfl (fun _ _ _ h => h)
          · have e0 := valsE_get (hp 0 (by decide)) rfl
            have e1 := valsE_get (hp 1 (by decide)) rfl
            simp only [e0, e1] at hK ⊢
            go_simp
            exact hK _ W hG rfl (fun _ _ _ h => h)
          · have e2 := valsE_get (hp 2 (by decide)) rfl
            have c1 := hG.made.out.cell i
            rw [outG_get hlt, if_pos (by omega), hG.made.room] at c1
            simp only [e2] at hK ⊢
            go_simp
            exact hK _ W hG rfl (fun _ _ _ h => h)
          · go_simp
            exact hK _ W hG rfl (fun _ _ _ h => h)
          · go_simp
            exact hK _ W hG rfl (fun _ _ _ h => h)
          · go_simp
            exact hK _ W hG rfl (fun _ _ _ h => h)
          · go_simp
            exact hK _ W hG rfl (fun _ _ _ h => h)
          · have e5 := valsE_get (hp 5 (by decide)) rfl
            have e6 := valsE_get (hp 6 (by decide)) rfl
            have e7 := valsE_get (hp 7 (by decide)) rfl
            simp only [e5, e6, e7] at hK ⊢
            go_simp
            refine (HO.out i k W hlt hkl hG.below).mono ?_
            rintro e W' ⟨rfl, hb⟩
            go_simp
            exact hK _ W' (hG.keep hb) rfl (fun _ _ _ h => h)
          · have e3 := valsE_get (hp 3 (by decide)) rfl
            have e4 := valsE_get (hp 4 (by decide)) rfl
            simp only [e3, e4] at hK ⊢
            go_simp
            exact hK _ W hG rfl (fun _ _ _ h => h)
        · have hkn : k = N := by omega
          subst hkn
          have HD : Hid (∃ g c : Nat → Nat, MadeI w.heap.size w.heap.size g c k k Z (i + 1) wr) := hide ⟨_, _, HJ.out.made.done⟩
          have HBn := hide HJ.out.below
          go_wp2
          go_roundw
          case rel =>
            first
            | exact ⟨i + 1, by omega, by go_num, HBn, HD⟩
            | ((repeat apply Exists.intro); refine ⟨?_, rfl⟩; exact ⟨i + 1, by omega, by go_num, HBn, HD⟩)
          case measure => simp [intOf]; omega
    · have hin : i = N := by omega
      subst hin
      obtain ⟨g, c, hM⟩ := HM.out
      obtain ⟨m, e1, e2, e3, e4⟩ := hM.mat (by omega) (by omega)
      have HF : Hid (Fresh i w.heap.size Z m wr) := hide ⟨e2, e3, e4⟩
      have He := hide e1
      clear hM e1 e2 e3 e4 HM
      go_wp2
      go_ret
      exact ⟨⟨m, congrArg Ending.returned He.out, HF.out⟩, HB.out⟩

theorem calls_begin1 (args : Array Value) (W : World) : (callFunc 48 args).run Tryz.prog W = .ok (.enter 48 args) W := by rfl

set_option maxHeartbeats 1000000 in
theorem begin1_any (n : NetM) (i j bx : Nat) (w : World) (h0 : 2 ≤ n.a.size) (h1 : n.a.size ≤ 24) (hb : Blk w bx n.cells 27) :
    Calls Tryz.prog 48 #[.int .i64 i, .int .i64 j, .pointer (some ⟨bx, 0, none⟩)] w fun e w' => e = .returned (.int .i64 (n.net.begin i j)) ∧ Below w.heap.size w w' := by
  have HO := hide (own_any n i j w h0 h1)
  have x0 := hb.cell 0
  have x1 := hb.cell 1
  have x2 := hb.cell 2
  have x3 := hb.cell 3
  have x4 := hb.cell 4
  simp [NetM.cells, Mat.val] at x0 x1 x2 x3 x4
  simp only [NetM.val, NetM.cells, Mat.val] at HO
  clear hb h0 h1
  go_enter Tryz.func48, Tryz.ntmps48
  go_wp2_with fail
  go_at_call 49
  refine HO.out.mono ?_
  rintro e w1 ⟨rfl, hb1⟩
  have HB := hide hb1
  clear hb1
  go_wp2
  go_ret
  exact ⟨rfl, HB.out⟩

set_option maxHeartbeats 4000000 in
theorem netBegin_ok (n : NetM) (w : World) (h : n.In w.heap.size w) (hck : n.net.check = 0) :
    Calls Tryz.prog 20 #[n.val] w fun e w' => (∃ m : Mat, e = .returned (.tuple #[m.val, .int .i64 0]) ∧ Fresh n.net.N w.heap.size n.net.begin m w') ∧ Below w.heap.size w w' := by
  have g := Net.good_of_check hck
  have lo := g.lo
  have hi6 := g.hi
  have hs0 : 2 ≤ n.a.size := g.law.good.lo
  have hs1 : n.a.size ≤ 24 := g.law.good.hi
  obtain ⟨N, hN⟩ : ∃ N : Nat, n.nodes = N := ⟨n.nodes.toNat, by have : n.net.nodes = n.nodes := rfl; omega⟩
  have hNN : n.net.N = N := by show n.nodes.toNat = N; omega
  have hN6 : N ≤ 6 := by have : n.net.nodes = n.nodes := rfl; omega
  have hN1 : 1 ≤ N := by have : n.net.nodes = n.nodes := rfl; omega
  have hB0 : Below w.heap.size w (w.alloc (.cells n.cells 27)) := (Below.refl _ w).alloc (Nat.le_refl _) _
  have HC := hide (netCheck_any n _ (h.grown hB0))
  rw [hck] at HC
  have hcells : n.cells = #[.int .i64 n.a.size, .slice n.a.B.ga n.a.B.t.len n.a.B.cap, .slice n.a.E.ga n.a.E.t.len n.a.E.cap, .int .i64 N, .slice n.la n.ln n.lc] := by simp only [NetM.cells, Mat.val, hN]
  have HO := hide (fun i j bx W (hb : Blk W bx n.cells 27) => begin1_any n i j bx W hs0 hs1 hb)
  have HNN := hide hNN
  simp only [NetM.val, hcells] at HC ⊢
  have Hcells := hide hcells
  clear hN hcells h hck hNN lo hi6 g hB0
  go_enter Tryz.func20, Tryz.ntmps20
  go_wp2_with fail
  go_at_call 27
  refine HC.out.mono ?_
  rintro e w1 ⟨rfl, hb1⟩
  have b1 := (Blk.new w n.cells 27).below (W' := w1) (by rw [Hcells.out]; exact hb1) (by simp)
  have hB1 : Below w.heap.size w w1 := ((Below.refl _ w).alloc (Nat.le_refl _) _).trans (hb1.mono (by simp))
  have x3 := b1.cell 3
  simp [Hcells.out] at x3
  have HFl := hide (filled_any 48 #[.pointer (some ⟨w.heap.size, 0, none⟩)] N n.net.begin w1 hN1 hN6 calls_begin1 (fun i j W _ _ hb => HO.out i j w.heap.size W (b1.below hb b1.lt)))
  have HB1 := hide hB1
  clear HC hb1 b1 hB1 HO
  go_wp2_with fail
  go_at_call 47
  refine HFl.out.mono ?_
  rintro e w2 ⟨⟨m, rfl, hm⟩, hb2⟩
  have HBw := hide (HB1.out.trans (hb2.mono HB1.out.size))
  have HF : Hid (Fresh n.net.N w.heap.size n.net.begin m w2) := hide (by rw [HNN.out]; exact ⟨hm.1, hm.2.1, hm.2.2.mono HB1.out.size⟩)
  clear hm hb2 HFl
  simp only [Mat.val]
  go_wp2
  refine bodyPost_ret (v := .tuple #[.slice m.ga m.t.len m.cap, .int .i64 0]) (by simp [results, Tryz.results20, go_sem]) rfl ⟨⟨m, rfl, HF.out⟩, HBw.out⟩

set_option maxHeartbeats 1000000 in
theorem netBegin_bad (n : NetM) (w : World) (h : n.In w.heap.size w) (hck : n.net.check ≠ 0) :
    Calls Tryz.prog 20 #[n.val] w fun e w' => e = .returned (.tuple #[.slice none 0 0, .int .i64 n.net.check]) ∧ Below w.heap.size w w' := by
  have hB0 : Below w.heap.size w (w.alloc (.cells n.cells 27)) := (Below.refl _ w).alloc (Nat.le_refl _) _
  have HF := hide (netCheck_any n _ (h.grown hB0))
  generalize n.net.check = ft at *
  have hf' : (ft != 0) = true := by simp [hck]
  clear hck h
  simp only [NetM.val, NetM.cells, Mat.val] at *
  go_enter Tryz.func20, Tryz.ntmps20
  go_wp2_with fail
  go_at_call 27
  refine HF.out.mono ?_
  rintro e w1 ⟨rfl, hb1⟩
  have HB := hide (hB0.trans (hb1.mono hB0.size))
  clear HF hb1 hB0
  go_wp2
  exact bodyPost_ret (v := .tuple #[.slice none 0 0, .int .i64 ft]) (by simp [results, Tryz.results20, go_sem]) rfl ⟨rfl, HB.out⟩

end Go.Proofs.YtjhkadffaephmabGreat

/-
  A region that draws its order, in which what some operations leave is used up by another.
-/
namespace Go.Proofs.YtjhkadffaephmabGreat
open Go

section
variable {P : Program} {ops : Array Oper} {Q : Exit → Act → World → Prop} {md : Region.Mode}

/-- Each operation, from what those that it waits for have left, as far as none has used it up: c tells who uses it up. -/
def EachOnce (P : Program) (md : Region.Mode) (ops : Array Oper) (Q : Exit → Act → World → Prop) (c : Nat → Nat) (G : World → Prop) (E : Nat → Value → World → Prop) (a0 : Act) : List Oper → Nat → Prop
  | [], _ => True
  | o :: os, i => (∀ (t : Nat → Value) (w : World), G w → (∀ j ∈ waits md o, (c j = i ∨ ops.size ≤ c j) → E j (t j) w) → (∀ k o', ops[k]? = some o' → i ∈ waits md o' → t k = first ops.toList a0 k) →
      ∀ K : Act → World → Prop, (∀ v w', G w' → E i v w' → (∀ j u, j ≠ i → c j ≠ i → E j u w → E j u w') → K ((fill ops.toList 0 t a0).put o.dst v) w') →
        if Region.wanted o (yielded ops (fill ops.toList 0 t a0).tmps) = true then Oper.wp P o (fill ops.toList 0 t a0) w K Q else K ((fill ops.toList 0 t a0).put o.dst undef) w) ∧
    EachOnce P md ops Q c G E a0 os (i + 1)

structure OnceI (md : Region.Mode) (ops : Array Oper) (a0 : Act) (c : Nat → Nat) (G : World → Prop) (E : Nat → Value → World → Prop) (d : Nat → Bool) (t : Nat → Value) (w : World) : Prop where
  shut : Shut md ops d
  first : ∀ k, d k = false → t k = first ops.toList a0 k
  held : G w
  left : ∀ k, d k = true → (ops.size ≤ c k ∨ d (c k) = false) → E k (t k) w

theorem each_of_once {c : Nat → Nat} {G : World → Prop} {E : Nat → Value → World → Prop} {a0 : Act} : ∀ (os : List Oper) (i : Nat), (∀ j o, os[j]? = some o → ops[i + j]? = some o) → EachOnce P md ops Q c G E a0 os i → EachI P md ops Q (OnceI md ops a0 c G E) a0 os i
  | [], _, _, _ => trivial
  | o :: os, i, hos, h => by
    have ho : ops[i]? = some o := by simpa using hos 0 o rfl
    have hi : i < ops.size := (Array.getElem?_eq_some_iff.1 ho).1
    refine ⟨fun d t w hI hd hp K hK => ?_, each_of_once os (i + 1) (fun j o' hj => by rw [show i + 1 + j = i + (j + 1) by omega]; exact hos (j + 1) o' (by simpa using hj)) h.2⟩
    refine h.1 t w hI.held (fun j hj hc => hI.left j (hp j hj) (hc.elim (fun e => Or.inr (by rw [e]; exact hd)) Or.inl)) (fun k o' hk hw => hI.first k (by
      cases e : d k with
      | false => rfl
      | true =>
        have := hI.shut k o' hk e i hw
        rw [hd] at this
        cases this)) K (fun v w' hG hE hkeep => hK v w' ⟨hI.shut.upd ho hp, fun k hk => ?_, hG, fun k hk hc => ?_⟩)
    · have e : k ≠ i := fun e => by subst e; simp [updB] at hk
      rw [upd_other t v e]
      exact hI.first k (by simpa [updB, e] using hk)
    by_cases e : k = i
    · subst e; rw [upd_same]; exact hE
    · rw [upd_other t v e]
      have hdk : d k = true := by simpa [updB, e] using hk
      by_cases ec : c k = i
      · rcases hc with hc | hc
        · omega
        · rw [ec] at hc; simp [updB] at hc
      · refine hkeep k (t k) e ec (hI.left k hdk ?_)
        rcases hc with hc | hc
        · exact Or.inl hc
        · exact Or.inr (by simpa [updB, ec] using hc)

theorem wp_region_once {id : Nat} {a : Act} {w : World} (c : Nat → Nat) (G : World → Prop) (E : Nat → Value → World → Prop) (hm : P.follows .mixedOrders = true)
    (hap : allApart ops.toList = true) (hb : backBinds .any ops.toList 0 = true) (hG : G w.drew)
    (hs : EachOnce P .any ops Q c G E a ops.toList 0)
    (hend : ∀ (t : Nat → Value) (w : World), G w → (∀ i, i < ops.size → ops.size ≤ c i → E i (t i) w) → Q .normal (fill ops.toList 0 t a) w) :
    (Code.region id ops true).wp P Q a w := by
  refine wp_region_any hm ?_
  have hz : (fun i => (Array.replicate ops.size false).getD i false) = fun _ => false := by
    funext i
    by_cases hi : i < ops.size
    · simp [hi]
    · simp [hi]
  have := wpAny_inv (md := .any) (I := OnceI .any ops a c G E) hap hb (each_of_once ops.toList 0 (fun j o hj => by simpa using hj) hs) (fun _ t w hI hall => hend t w hI.held (fun i hi hc => hI.left i (hall i hi) (Or.inl hc))) ops.size (Array.replicate ops.size false) (first ops.toList a) w.drew (by simp) (by simp)
    (by rw [hz]; exact ⟨fun i o _ h => by simp at h, fun _ _ => rfl, hG, fun _ h => by cases h⟩)
  rw [fill_first] at this
  exact this

theorem once_of_each {G : World → Prop} {E : Nat → Value → World → Prop} {a0 : Act} : ∀ (os : List Oper) (i : Nat), EachOp P md ops Q G E a0 os i → EachOnce P md ops Q (fun _ => ops.size) G E a0 os i
  | [], _, _ => trivial
  | _ :: os, i, h => ⟨fun t w hG hp _ K hK => h.1 t w hG (fun j hj => hp j hj (Or.inr (Nat.le_refl _))) K (fun v w' hG' hE hk => hK v w' hG' hE (fun j u hj _ hu => hk j u hj hu)), once_of_each os (i + 1) h.2⟩
/-- As wp_region_each, of edges that bind. -/
theorem wp_region_only {id : Nat} {a : Act} {w : World} (G : World → Prop) (E : Nat → Value → World → Prop) (hm : P.follows .mixedOrders = true)
    (hap : allApart ops.toList = true) (hb : backBinds .any ops.toList 0 = true) (hG : G w.drew)
    (hs : EachOp P .any ops Q G E a ops.toList 0)
    (hend : ∀ (t : Nat → Value) (w : World), G w → (∀ i, i < ops.size → E i (t i) w) → Q .normal (fill ops.toList 0 t a) w) :
    (Code.region id ops true).wp P Q a w :=
  wp_region_once (fun _ => ops.size) G E hm hap hb hG (once_of_each ops.toList 0 hs) (fun t w hG hE => hend t w hG (fun i hi => hE i hi (Nat.le_refl _)))
end

end Go.Proofs.YtjhkadffaephmabGreat

/-
  Plain mathematics: all cases of a law by one number: its digits are the routes.
-/
namespace Go.Proofs.YtjhkadffaephmabGreat
open Go.RowKit

/-- The number that stands in place i, when the last (many less t) places are filled. -/
def digit (many s n t i : Nat) : Nat := if t ≤ i ∧ i < many then n / s ^ (many - 1 - i) % s else 0

def caseAt (l : Int) (many s n e : Nat) : Brk := ⟨l, digit many s n 0 0, digit many s n 0 1, digit many s n 0 2, e⟩

def enumTo (l : Int) (many s ed n e : Nat) : List Brk := ((List.range n).flatMap fun k => (List.range ed).map fun j => caseAt l many s k j) ++ (List.range e).map fun j => caseAt l many s n j

theorem enumTo_snoc (l : Int) (many s ed n e : Nat) : enumTo l many s ed n (e + 1) = enumTo l many s ed n e ++ [caseAt l many s n e] := by
  simp [enumTo, List.range_succ]
theorem enumTo_row (l : Int) (many s ed n : Nat) : enumTo l many s ed n ed = enumTo l many s ed (n + 1) 0 := by
  simp [enumTo, List.range_succ, List.flatMap_append]
theorem enumTo_0 (l : Int) (many s ed : Nat) : enumTo l many s ed 0 0 = [] := by simp [enumTo]

theorem enumTo_pre {l : Int} {many s ed n e N : Nat} (hn : n < N) (he : e ≤ ed) : enumTo l many s ed n e <+: enumTo l many s ed N 0 := by
  have h1 : enumTo l many s ed n e <+: enumTo l many s ed (n + 1) 0 := by
    rw [← enumTo_row]
    unfold enumTo
    refine (List.prefix_append_right_inj _).2 ?_
    have : List.range ed = List.range e ++ (List.range (ed - e)).map (e + ·) := by
      have := @List.range_add e (ed - e)
      rwa [show e + (ed - e) = ed by omega] at this
    rw [this, List.map_append]
    exact List.prefix_append _ _
  refine h1.trans ?_
  have h2 : ∀ k, enumTo l many s ed k 0 <+: enumTo l many s ed (k + 1) 0 := fun k => by
    rw [← enumTo_row]
    unfold enumTo
    simp
  exact pre_mono h2 hn

theorem range_mul {β : Type} (m k : Nat) (f : Nat → List β) : (List.range (m * k)).flatMap f = (List.range m).flatMap fun i => (List.range k).flatMap fun j => f (i * k + j) := by
  induction m with
  | zero => simp
  | succ m ih =>
    rw [Nat.succ_mul, List.range_add, List.flatMap_append, ih, List.range_succ, List.flatMap_append]
    simp [List.flatMap_map]

theorem flatMap_congr' {α β : Type} {l : List α} {f g : α → List β} (h : ∀ x ∈ l, f x = g x) : l.flatMap f = l.flatMap g := by
  rw [List.flatMap_def, List.flatMap_def, List.map_congr_left h]

theorem enum0 (l : Int) (s ed : Nat) : enumTo l 0 s ed 1 0 = casesA l 1 1 ed 1 := by
  simp [enumTo, casesA, casesB, casesC, casesE, caseAt, digit, List.range_succ]

theorem enum1 (l : Int) (s ed : Nat) : enumTo l 1 s ed s 0 = casesA l 1 1 ed s := by
  simp only [enumTo, casesA, casesB, casesC, casesE, List.range_zero, List.map_nil, List.append_nil]
  refine flatMap_congr' fun x hx => ?_
  have hx' : x < s := List.mem_range.1 hx
  simp [caseAt, digit, List.range_succ, Nat.mod_eq_of_lt hx']

theorem enum2 (l : Int) (s ed : Nat) : enumTo l 2 s ed (s * s) 0 = casesA l s 1 ed s := by
  simp only [enumTo, casesA, casesB, casesC, casesE, List.range_zero, List.map_nil, List.append_nil]
  rw [range_mul]
  refine flatMap_congr' fun x hx => flatMap_congr' fun y hy => ?_
  have hx' : x < s := List.mem_range.1 hx
  have hy' : y < s := List.mem_range.1 hy
  have h1 : (x * s + y) % s = y := by rw [Nat.mul_add_mod_self_right]; exact Nat.mod_eq_of_lt hy'
  have h2 : (x * s + y) / s = x := by rw [Nat.mul_comm, Nat.mul_add_div (by omega), Nat.div_eq_of_lt hy', Nat.add_zero]
  simp [caseAt, digit, List.range_succ, h1, h2, Nat.mod_eq_of_lt hx']

theorem enum3 (l : Int) (s ed : Nat) : enumTo l 3 s ed (s * s * s) 0 = casesA l s s ed s := by
  simp only [enumTo, casesA, casesB, casesC, casesE, List.range_zero, List.map_nil, List.append_nil]
  rw [range_mul, range_mul]
  refine flatMap_congr' fun x hx => flatMap_congr' fun y hy => flatMap_congr' fun z hz => ?_
  have hx' : x < s := List.mem_range.1 hx
  have hy' : y < s := List.mem_range.1 hy
  have hz' : z < s := List.mem_range.1 hz
  have h1 : ((x * s + y) * s + z) % s = z := by rw [Nat.mul_add_mod_self_right]; exact Nat.mod_eq_of_lt hz'
  have h2 : ((x * s + y) * s + z) / s = x * s + y := by rw [Nat.mul_comm, Nat.mul_add_div (by omega), Nat.div_eq_of_lt hz', Nat.add_zero]
  have h3 : (x * s + y) % s = y := by rw [Nat.mul_add_mod_self_right]; exact Nat.mod_eq_of_lt hy'
  have h4 : (x * s + y) / s = x := by rw [Nat.mul_comm, Nat.mul_add_div (by omega), Nat.div_eq_of_lt hy', Nat.add_zero]
  have h5 : ((x * s + y) * s + z) / s ^ 2 = x := by rw [Nat.pow_two, ← Nat.div_div_eq_div_mul, h2, h4]
  simp [caseAt, digit, h1, h2, h3, h5, Nat.mod_eq_of_lt hx']

/-- By one number, all cases of a law come, in their order. -/
theorem enum_eq {a : Alg} {l : Int} {s many ed : Nat} (hs : a.size = s) (hm : routesOf l = many) (he : (if edgeOf l then a.E.len else 1) = ed) : enumTo l many s ed (s ^ many) 0 = a.casesOf l := by
  have hE : (spanE a l).toNat = ed := by
    unfold spanE; rw [← he]; cases edgeOf l <;> simp
  unfold Alg.casesOf spanA spanB spanC
  rw [hE, hs, hm]
  have hc : many = 0 ∨ many = 1 ∨ many = 2 ∨ many = 3 := by have := routes_cases l; omega
  rcases hc with rfl | rfl | rfl | rfl
  · exact enum0 l s ed
  · simpa using enum1 l s ed
  · rw [show s ^ 2 = s * s from Nat.pow_two s]
    simpa using enum2 l s ed
  · rw [show s ^ 3 = s * s * s by rw [Nat.pow_succ, Nat.pow_two]]
    simpa using enum3 l s ed

end Go.Proofs.YtjhkadffaephmabGreat

/-
  signpostref.Names; what HoldsOf reads.
-/
namespace Go.Proofs.YtjhkadffaephmabGreat
open Go.RowKit

set_option maxHeartbeats 1000000 in
theorem refNames_any (l : Int) (l0 : 1 ≤ l) (l1 : l ≤ 9) (w : World) :
    Calls Tryz.prog 78 #[.int .i64 l] w fun e w' => e = .returned (.tuple #[.int .i64 (routesOf l), .bool (edgeOf l)]) ∧ w' = w := by
  have hc : l = 1 ∨ l = 2 ∨ l = 3 ∨ l = 4 ∨ l = 5 ∨ l = 6 ∨ l = 7 ∨ l = 8 ∨ l = 9 := by omega
  rcases hc with rfl | rfl | rfl | rfl | rfl | rfl | rfl | rfl | rfl
  all_goals
    go_enter Tryz.func78, Tryz.ntmps78
    go_wp2
    go_ret2
    exact ⟨rfl, rfl⟩

theorem frame_in0 {a : AlgM} {w : World} (h : a.In w.heap.size w) (o1 o2 : Obj) : a.In w.heap.size ((w.alloc o1).alloc o2) := frame_in h (Nat.le_refl _) o1 o2 0

theorem best_at {a : AlgM} (g : a.alg.Good) {n : Nat} {W : World} (h : a.In n W) (r s : Nat) (hr : (r : Int) < a.size) (hs : (s : Int) < a.size) :
    ∃ q : Nat, (q : Int) < a.size ∧ a.alg.B.get r s = q ∧ (r : Int) < (a.B.t.len : Int) ∧ (s : Int) < (a.B.t.L r : Int) ∧
      W.cell? ⟨a.B.gb, a.B.go + r, none⟩ = some (.slice (some ⟨a.B.RB r, a.B.RO r, none⟩) (a.B.t.L r) (a.B.C r)) ∧ W.cell? ⟨a.B.RB r, a.B.RO r + s, none⟩ = some (.int .i64 q) := by
  have hbl : (a.B.t.len : Int) = a.size := g.bl
  have hlt : r < a.B.t.len := by omega
  have hL : (a.B.t.L r : Int) = a.size := g.bw r hlt
  have hsl : s < a.B.t.L r := by omega
  have hz : 0 ≤ a.B.t.Z r s ∧ a.B.t.Z r s < a.size := g.bz r hlt s hsl
  obtain ⟨q, hq⟩ := Int.eq_ofNat_of_zero_le hz.1
  have hrow := h.B.row r hlt
  rw [(h.B.addr r hlt (by omega)).1] at hrow
  have hcell := h.B.cell r hlt s hsl
  rw [hq] at hcell
  exact ⟨q, by omega, by show a.B.t.Z r s = q; omega, by omega, by omega, hrow, hcell⟩

theorem edge_at {a : AlgM} (g : a.alg.Good) {n : Nat} {W : World} (h : a.In n W) (r s : Nat) (hr : (r : Int) < a.E.t.len) (hs : (s : Int) < a.size) :
    ∃ q : Nat, (q : Int) < a.size ∧ a.alg.E.get r s = q ∧ (s : Int) < (a.E.t.L r : Int) ∧
      W.cell? ⟨a.E.gb, a.E.go + r, none⟩ = some (.slice (some ⟨a.E.RB r, a.E.RO r, none⟩) (a.E.t.L r) (a.E.C r)) ∧ W.cell? ⟨a.E.RB r, a.E.RO r + s, none⟩ = some (.int .i64 q) := by
  have hlt : r < a.E.t.len := by omega
  have hL : (a.E.t.L r : Int) = a.size := g.ew r hlt
  have hsl : s < a.E.t.L r := by omega
  have hz : 0 ≤ a.E.t.Z r s ∧ a.E.t.Z r s < a.size := g.ez r hlt s hsl
  obtain ⟨q, hq⟩ := Int.eq_ofNat_of_zero_le hz.1
  have hrow := h.E.row r hlt
  rw [(h.E.addr r hlt (by omega)).1] at hrow
  have hcell := h.E.cell r hlt s hsl
  rw [hq] at hcell
  exact ⟨q, by omega, by show a.E.t.Z r s = q; omega, by omega, hrow, hcell⟩

end Go.Proofs.YtjhkadffaephmabGreat

/-
  signpostref.HoldsOf at the laws 1 to 3.
-/
namespace Go.Proofs.YtjhkadffaephmabGreat
open Go.RowKit

set_option maxRecDepth 100000 in
set_option maxHeartbeats 2000000 in
theorem refHolds_1 (a : AlgM) (g : a.alg.Good) (x : Brk) (f : a.alg.Fits x) (w : World) (h : a.In w.heap.size w) (hl : x.law = 1) :
    Calls Tryz.prog 79 #[a.val, x.val] w fun e w' => e = .returned (.bool (a.alg.holds x)) ∧ Below w.heap.size w w' := by
  have s0 : 2 ≤ a.size := g.lo
  have s1 : a.size ≤ 24 := g.hi
  have hbl : (a.B.t.len : Int) = a.size := g.bl
  have hga := h.B.ga (by omega)
  have fa : x.a < a.size := f.a_lt g
  have fb : x.b < a.size := f.b_lt g
  have fc : x.c < a.size := f.c_lt g
  have fa0 := f.a0
  have fb0 := f.b0
  have fc0 := f.c0
  have fe0 := f.e0
  obtain ⟨l, xa, xb, xc, xe⟩ := x
  simp only at hl fa fb fc fa0 fb0 fc0 fe0
  subst hl
  obtain ⟨i, rfl⟩ := Int.eq_ofNat_of_zero_le fa0
  obtain ⟨j, rfl⟩ := Int.eq_ofNat_of_zero_le fb0
  obtain ⟨k, rfl⟩ := Int.eq_ofNat_of_zero_le fc0
  obtain ⟨m, rfl⟩ := Int.eq_ofNat_of_zero_le fe0
  obtain ⟨z, hz⟩ := Int.eq_ofNat_of_zero_le (show 0 ≤ a.size - 1 by omega)
  have hI := frame_in0 h (.cells #[.int .i64 a.size, .slice (some ⟨a.B.gb, a.B.go, none⟩) a.B.t.len a.B.cap, a.E.val] 24) (.cells #[.int .i64 1, .int .i64 i, .int .i64 j, .int .i64 k, .int .i64 m] 93)
  have hav : a.val = .agg #[.int .i64 a.size, .slice (some ⟨a.B.gb, a.B.go, none⟩) a.B.t.len a.B.cap, a.E.val] := by simp only [AlgM.val, Mat.val, hga]
  obtain ⟨q1, uq1, Eq1, lq1, cq1, rq1, vq1⟩ := best_at g hI i j (by omega) (by omega)
  obtain ⟨q2, uq2, Eq2, lq2, cq2, rq2, vq2⟩ := best_at g hI j i (by omega) (by omega)
  have Hfin := hide (show a.alg.holds ⟨1, i, j, k, m⟩ = ((q1 : Int) == (q2 : Int)) by simp [Alg.holds, Eq1, Eq2])
  rw [hav]
  clear Eq1 Eq2 hbl f g hI h hav hga
  simp only [Brk.val]
  go_enter Tryz.func79, Tryz.ntmps79
  go_wp2_with fail
  go_quiet (fail)
  go_wp2_with fail
  go_quiet (fail)
  go_wp2
  go_ret
  exact ⟨by rw [Hfin.out]; rfl, below_drewN (frame_below w _ _ _) _⟩

set_option maxRecDepth 100000 in
set_option maxHeartbeats 2000000 in
theorem refHolds_2 (a : AlgM) (g : a.alg.Good) (x : Brk) (f : a.alg.Fits x) (w : World) (h : a.In w.heap.size w) (hl : x.law = 2) :
    Calls Tryz.prog 79 #[a.val, x.val] w fun e w' => e = .returned (.bool (a.alg.holds x)) ∧ Below w.heap.size w w' := by
  have s0 : 2 ≤ a.size := g.lo
  have s1 : a.size ≤ 24 := g.hi
  have hbl : (a.B.t.len : Int) = a.size := g.bl
  have hga := h.B.ga (by omega)
  have fa : x.a < a.size := f.a_lt g
  have fb : x.b < a.size := f.b_lt g
  have fc : x.c < a.size := f.c_lt g
  have fa0 := f.a0
  have fb0 := f.b0
  have fc0 := f.c0
  have fe0 := f.e0
  obtain ⟨l, xa, xb, xc, xe⟩ := x
  simp only at hl fa fb fc fa0 fb0 fc0 fe0
  subst hl
  obtain ⟨i, rfl⟩ := Int.eq_ofNat_of_zero_le fa0
  obtain ⟨j, rfl⟩ := Int.eq_ofNat_of_zero_le fb0
  obtain ⟨k, rfl⟩ := Int.eq_ofNat_of_zero_le fc0
  obtain ⟨m, rfl⟩ := Int.eq_ofNat_of_zero_le fe0
  obtain ⟨z, hz⟩ := Int.eq_ofNat_of_zero_le (show 0 ≤ a.size - 1 by omega)
  have hI := frame_in0 h (.cells #[.int .i64 a.size, .slice (some ⟨a.B.gb, a.B.go, none⟩) a.B.t.len a.B.cap, a.E.val] 24) (.cells #[.int .i64 2, .int .i64 i, .int .i64 j, .int .i64 k, .int .i64 m] 93)
  have hav : a.val = .agg #[.int .i64 a.size, .slice (some ⟨a.B.gb, a.B.go, none⟩) a.B.t.len a.B.cap, a.E.val] := by simp only [AlgM.val, Mat.val, hga]
  obtain ⟨q1, uq1, Eq1, lq1, cq1, rq1, vq1⟩ := best_at g hI i j (by omega) (by omega)
  obtain ⟨q2, uq2, Eq2, lq2, cq2, rq2, vq2⟩ := best_at g hI j k (by omega) (by omega)
  obtain ⟨q3, uq3, Eq3, lq3, cq3, rq3, vq3⟩ := best_at g hI i q2 (by omega) (by omega)
  obtain ⟨q4, uq4, Eq4, lq4, cq4, rq4, vq4⟩ := best_at g hI q1 k (by omega) (by omega)
  have Hfin := hide (show a.alg.holds ⟨2, i, j, k, m⟩ = ((q3 : Int) == (q4 : Int)) by simp [Alg.holds, Eq1, Eq2, Eq3, Eq4])
  rw [hav]
  clear Eq1 Eq2 Eq3 Eq4 hbl f g hI h hav hga
  simp only [Brk.val]
  go_enter Tryz.func79, Tryz.ntmps79
  go_wp2_with fail
  go_quiet (fail)
  go_wp2_with fail
  go_quiet (fail)
  go_wp2
  go_ret
  exact ⟨by rw [Hfin.out]; rfl, below_drewN (frame_below w _ _ _) _⟩

set_option maxRecDepth 100000 in
set_option maxHeartbeats 2000000 in
theorem refHolds_3t (a : AlgM) (g : a.alg.Good) (x : Brk) (f : a.alg.Fits x) (w : World) (h : a.In w.heap.size w) (hl : x.law = 3) (hg : (a.alg.B.get x.a x.b == x.a) = true) :
    Calls Tryz.prog 79 #[a.val, x.val] w fun e w' => e = .returned (.bool (a.alg.holds x)) ∧ Below w.heap.size w w' := by
  have s0 : 2 ≤ a.size := g.lo
  have s1 : a.size ≤ 24 := g.hi
  have hbl : (a.B.t.len : Int) = a.size := g.bl
  have hga := h.B.ga (by omega)
  have fa : x.a < a.size := f.a_lt g
  have fb : x.b < a.size := f.b_lt g
  have fc : x.c < a.size := f.c_lt g
  have fa0 := f.a0
  have fb0 := f.b0
  have fc0 := f.c0
  have fe0 := f.e0
  obtain ⟨l, xa, xb, xc, xe⟩ := x
  simp only at hl fa fb fc fa0 fb0 fc0 fe0 hg
  subst hl
  obtain ⟨i, rfl⟩ := Int.eq_ofNat_of_zero_le fa0
  obtain ⟨j, rfl⟩ := Int.eq_ofNat_of_zero_le fb0
  obtain ⟨k, rfl⟩ := Int.eq_ofNat_of_zero_le fc0
  obtain ⟨m, rfl⟩ := Int.eq_ofNat_of_zero_le fe0
  obtain ⟨z, hz⟩ := Int.eq_ofNat_of_zero_le (show 0 ≤ a.size - 1 by omega)
  have hI := frame_in0 h (.cells #[.int .i64 a.size, .slice (some ⟨a.B.gb, a.B.go, none⟩) a.B.t.len a.B.cap, a.E.val] 24) (.cells #[.int .i64 3, .int .i64 i, .int .i64 j, .int .i64 k, .int .i64 m] 93)
  have hav : a.val = .agg #[.int .i64 a.size, .slice (some ⟨a.B.gb, a.B.go, none⟩) a.B.t.len a.B.cap, a.E.val] := by simp only [AlgM.val, Mat.val, hga]
  obtain ⟨q1, uq1, Eq1, lq1, cq1, rq1, vq1⟩ := best_at g hI i j (by omega) (by omega)
  have HG := hide (show ((q1 : Int) == (i : Int)) = true by rw [← Eq1]; exact hg)
  have Hfin := hide (show a.alg.holds ⟨3, i, j, k, m⟩ = true by simp [Alg.holds, Eq1]; left; simpa [Eq1] using hg)
  rw [hav]
  clear Eq1 hbl f g hI h hav hga
  have hg2 : ((q1 : Int) == (i : Int)) = true := HG.out
  clear hg HG
  simp only [Brk.val]
  go_enter Tryz.func79, Tryz.ntmps79
  go_wp2_with fail
  go_quiet (fail)
  go_wp2_with fail
  go_ret
  exact ⟨by rw [Hfin.out]; rfl, frame_below w _ _ _⟩

set_option maxRecDepth 100000 in
set_option maxHeartbeats 2000000 in
theorem refHolds_3f (a : AlgM) (g : a.alg.Good) (x : Brk) (f : a.alg.Fits x) (w : World) (h : a.In w.heap.size w) (hl : x.law = 3) (hg : (a.alg.B.get x.a x.b == x.a) = false) :
    Calls Tryz.prog 79 #[a.val, x.val] w fun e w' => e = .returned (.bool (a.alg.holds x)) ∧ Below w.heap.size w w' := by
  have s0 : 2 ≤ a.size := g.lo
  have s1 : a.size ≤ 24 := g.hi
  have hbl : (a.B.t.len : Int) = a.size := g.bl
  have hga := h.B.ga (by omega)
  have fa : x.a < a.size := f.a_lt g
  have fb : x.b < a.size := f.b_lt g
  have fc : x.c < a.size := f.c_lt g
  have fa0 := f.a0
  have fb0 := f.b0
  have fc0 := f.c0
  have fe0 := f.e0
  obtain ⟨l, xa, xb, xc, xe⟩ := x
  simp only at hl fa fb fc fa0 fb0 fc0 fe0 hg
  subst hl
  obtain ⟨i, rfl⟩ := Int.eq_ofNat_of_zero_le fa0
  obtain ⟨j, rfl⟩ := Int.eq_ofNat_of_zero_le fb0
  obtain ⟨k, rfl⟩ := Int.eq_ofNat_of_zero_le fc0
  obtain ⟨m, rfl⟩ := Int.eq_ofNat_of_zero_le fe0
  obtain ⟨z, hz⟩ := Int.eq_ofNat_of_zero_le (show 0 ≤ a.size - 1 by omega)
  have hI := frame_in0 h (.cells #[.int .i64 a.size, .slice (some ⟨a.B.gb, a.B.go, none⟩) a.B.t.len a.B.cap, a.E.val] 24) (.cells #[.int .i64 3, .int .i64 i, .int .i64 j, .int .i64 k, .int .i64 m] 93)
  have hav : a.val = .agg #[.int .i64 a.size, .slice (some ⟨a.B.gb, a.B.go, none⟩) a.B.t.len a.B.cap, a.E.val] := by simp only [AlgM.val, Mat.val, hga]
  obtain ⟨q1, uq1, Eq1, lq1, cq1, rq1, vq1⟩ := best_at g hI i j (by omega) (by omega)
  have HG := hide (show ((q1 : Int) == (i : Int)) = false by rw [← Eq1]; exact hg)
  have Hfin := hide (show a.alg.holds ⟨3, i, j, k, m⟩ = ((q1 : Int) == (j : Int)) by simp only [Alg.holds]; rw [Eq1, HG.out]; simp)
  rw [hav]
  clear Eq1 hbl f g hI h hav hga
  have hg2 : ((q1 : Int) == (i : Int)) = false := HG.out
  clear hg HG
  simp only [Brk.val]
  go_enter Tryz.func79, Tryz.ntmps79
  go_wp2_with fail
  go_quiet (fail)
  go_wp2_with fail
  go_ret
  exact ⟨by rw [Hfin.out]; rfl, frame_below w _ _ _⟩

end Go.Proofs.YtjhkadffaephmabGreat
