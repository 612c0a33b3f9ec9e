/-
  net.Begin.
-/
import Derived.Test.YtjhkadffaephmabRound
import Derived.Test.YtjhkadffaephmabLast
namespace Go.Proofs.Ytjhkadffaephmab
set_option maxRecDepth 100000
open Go.RowKit

/-- i rows are made, and k numbers of the next. -/
structure MadeJ (lo ob : Nat) (g c : Nat → Nat) (p n : Nat) (Z : Nat → Nat → Int) (i k : Nat) (W : World) : Prop where
  out : Blk W ob (outG g c p n (i + 1)) 22
  base : lo ≤ ob
  rows : ∀ r, r < i → lo ≤ g r ∧ Lies W (g r) ∧ g r ≠ ob ∧ g r ≠ g i ∧ ∀ j, j < p → W.cell? ⟨g r, j, none⟩ = some (.int .i64 (Z r j))
  cur : Blk W (g i) (rowArr (Z i) p k) 3
  own : lo ≤ g i ∧ g i ≠ ob
  room : c i = p

theorem MadeI.row {lo ob : Nat} {g c : Nat → Nat} {p n : Nat} {Z : Nat → Nat → Int} {i : Nat} {W : World} (h : MadeI lo ob g c p n Z i W) (hlo : lo ≤ W.heap.size) :
    MadeJ lo ob (updN g i W.heap.size) (updN c i p) p n Z i 0 ((W.alloc (.cells (madeCells #[.int .i64 0] p) 3)).setCell ⟨ob, i, none⟩ (.slice (some ⟨W.heap.size, 0, none⟩) p p)) where
  out := by have := (h.out.alloc (.cells (madeCells #[.int .i64 0] p) 3)).set i (.slice (some ⟨W.heap.size, 0, none⟩) p p); rw [outG_set] at this; exact this
  base := h.base
  rows := fun r hr => by
    rw [updN_other g _ (by omega), updN_same]
    obtain ⟨h1, h2, h3, h4⟩ := h.rows r hr
    refine ⟨h1, (h2.grown ((Below.refl _ W).alloc (Nat.le_refl _) _)).set _ _, h3, by have := h2.lt; omega, fun j hj => ?_⟩
    rw [cell_other h3, ((Below.refl _ W).alloc (Nat.le_refl _) _).cell (p := ⟨g r, j, none⟩) h2.lt]
    exact h4 j hj
  cur := by
    rw [updN_same, rowArr_zero (Z i) p]
    exact (Blk.new W _ _).other (by have := h.out.lt; omega) _ _
  own := by rw [updN_same]; exact ⟨hlo, by have := h.out.lt; omega⟩
  room := updN_same _ _ _

theorem MadeJ.below {lo ob : Nat} {g c : Nat → Nat} {p n i k : Nat} {Z : Nat → Nat → Int} {W W' : World} (h : MadeJ lo ob g c p n Z i k W) (hb : Below W.heap.size W W') : MadeJ lo ob g c p n Z i k W' where
  out := h.out.below hb h.out.lt
  base := h.base
  rows := fun r hr => by
    obtain ⟨h1, h2, h3, h4, h5⟩ := h.rows r hr
    exact ⟨h1, h2.grown hb, h3, h4, fun j hj => by rw [hb.cell (p := ⟨g r, j, none⟩) h2.lt]; exact h5 j hj⟩
  cur := h.cur.below hb h.cur.lt
  own := h.own
  room := h.room

theorem MadeJ.put {lo ob : Nat} {g c : Nat → Nat} {p n i k : Nat} {Z : Nat → Nat → Int} {W : World} (h : MadeJ lo ob g c p n Z i k W) :
    MadeJ lo ob g c p n Z i (k + 1) (W.setCell ⟨g i, k, none⟩ (.int .i64 (Z i k))) where
  out := h.out.other (Ne.symm h.own.2) _ _
  base := h.base
  rows := fun r hr => by
    obtain ⟨h1, h2, h3, h4, h5⟩ := h.rows r hr
    exact ⟨h1, h2.set _ _, h3, h4, fun j hj => by rw [cell_other h4]; exact h5 j hj⟩
  cur := by have := h.cur.set k (.int .i64 (Z i k)); rw [rowArr_set] at this; exact this
  own := h.own
  room := h.room

theorem MadeJ.done {lo ob : Nat} {g c : Nat → Nat} {p n i : Nat} {Z : Nat → Nat → Int} {W : World} (h : MadeJ lo ob g c p n Z i p W) : MadeI lo ob g c p n Z (i + 1) W where
  out := h.out
  base := h.base
  rows := fun r hr => by
    by_cases e : r = i
    · subst e
      exact ⟨h.own.1, ⟨_, h.cur⟩, h.own.2, fun j hj => by rw [h.cur.cell j, rowArr_get hj, if_pos hj]⟩
    · obtain ⟨h1, h2, h3, _, h5⟩ := h.rows r (by omega)
      exact ⟨h1, h2, h3, h5⟩

/-- What an operation leaves, whatever the world. -/
def valsE (vs : List Value) (k : Nat) (v : Value) (_ : World) : Prop := vs[k]? = some v
theorem valsE_get {vs : List Value} {k : Nat} {v u : Value} {w : World} (h : valsE vs k v w) (hu : vs[k]? = some u) : v = u := by
  unfold valsE at h
  rw [h] at hu
  exact Option.some.inj hu

/-- What stands all through a round of Begin's inner loop. -/
structure BegI (lo : Nat) (w1 : World) (N : Nat) (Z : Nat → Nat → Int) (g c : Nat → Nat) (i k : Nat) (W : World) : Prop where
  below : Below w1.heap.size w1 W
  made : MadeJ lo w1.heap.size g c N N Z i k W

theorem BegI.keep {lo : Nat} {w1 : World} {N : Nat} {Z : Nat → Nat → Int} {g c : Nat → Nat} {i k : Nat} {W W' : World} (h : BegI lo w1 N Z g c i k W) (hb : Below W.heap.size W W') : BegI lo w1 N Z g c i k W' :=
  ⟨h.below.trans (hb.mono h.below.size), h.made.below hb⟩

set_option maxHeartbeats 4000000 in
theorem filled_any (fid : Nat) (cap : Array Value) (N : Nat) (Z : Nat → Nat → Int) (w : World) (hN0 : 1 ≤ N) (hN6 : N ≤ 6)
    (hcf : ∀ (args : Array Value) (W : World), (callFunc fid args).run Try.prog W = .ok (.enter fid args) W)
    (hat : ∀ (i j : Nat) (W : World), i < N → j < N → Below w.heap.size w W → Calls Try.prog fid (#[.int .i64 i, .int .i64 j] ++ cap) W fun e w' => e = .returned (.int .i64 (Z i j)) ∧ Below W.heap.size W w') :
    Calls Try.prog 82 #[.int .i64 N, .func (.func fid) #[] cap] w fun e w' => (∃ m : Mat, e = .returned m.val ∧ Fresh N w.heap.size Z m w') ∧ Below w.heap.size w w' := by
  obtain ⟨i1, hi1, hy0, hy1, hy2⟩ := info_parts Try.infoInt
  obtain ⟨i2, hi2, hx0, hx1, hx2⟩ := info_parts Try.infoInts
  have hmkA : ∀ u : World, (Instr.makeSlice 36 (.int .i64 (N : Int)) (.int .i64 (N : Int))).run Try.prog u = .ok (.slice (some ⟨u.heap.size, 0, none⟩) N N) (u.alloc (.cells (madeCells #[.slice none 0 0] N) 22)) := fun u => by
    have h := run_make (P := Try.prog) u 36 22 i2 (.slice none 0 0) Try.underlying36 hi2 hx0 .i64 .i64 (N : Int) (N : Int) (by omega) (Int.le_refl _) (by rw [hx2]; omega) (by omega)
    simpa [hx1, Value.cells] using h
  have hmkB : ∀ u : World, (Instr.makeSlice 22 (.int .i64 (N : Int)) (.int .i64 (N : Int))).run Try.prog u = .ok (.slice (some ⟨u.heap.size, 0, none⟩) N N) (u.alloc (.cells (madeCells #[.int .i64 0] N) 3)) := fun u => by
    have h := run_make (P := Try.prog) u 22 3 i1 (.int .i64 0) Try.underlying22 hi1 hy0 .i64 .i64 (N : Int) (N : Int) (by omega) (Int.le_refl _) (by rw [hy2]; omega) (by omega)
    simpa [hy1, Value.cells] using h
  have HO := hide hat
  clear hat
  go_enter Try.func82, Try.ntmps82
  go_wp2_with fail
  go_loopw [6, 7, 12] (fun _ _ q wr => ∃ k : Nat, k ≤ N ∧ q = .int .i64 k ∧ Hid (Below w.heap.size w wr) ∧ Hid (∃ g c : Nat → Nat, MadeI w.heap.size w.heap.size g c N N Z k wr)) (fun _ _ q _ => N - (intOf q).toNat)
  case atStart => exact ⟨0, Nat.zero_le _, rfl, hide ((Below.refl _ _).alloc (Nat.le_refl _) _), hide ⟨_, _, MadeI.start w w.heap.size N N Z (by omega)⟩⟩
  case round =>
    obtain ⟨i, hi, rfl, HB, HM⟩ := hrel
    by_cases hlt : i < N
    · obtain ⟨g, c, hM⟩ := HM.out
      have hsz := HB.out.size
      have hMr := hM.row (by omega)
      have o0 : ∀ o, (wr.alloc o).cell? ⟨w.heap.size, i, none⟩ = some (.slice none 0 0) := fun o => by
        have := (hM.out.alloc o).cell i
        rw [outG_get hlt, if_neg (Nat.lt_irrefl _)] at this
        exact this
      have of : ∀ o, (wr.alloc o).frozen? ⟨w.heap.size, i, none⟩ = false := fun o => (hM.out.alloc o).frozen i
      have hii : (i : Int) < (N : Int) := by omega
      have hm0 := hMr.out.cell i
      rw [outG_get hlt, if_pos (by omega), updN_same, updN_same] at hm0
      have HR : Hid (BegI w.heap.size w N Z (updN g i wr.heap.size) (updN c i N) i 0 ((wr.alloc (.cells (madeCells #[.int .i64 0] N) 3)).setCell ⟨w.heap.size, i, none⟩ (.slice (some ⟨wr.heap.size, 0, none⟩) N N))) :=
        hide ⟨(HB.out.alloc HB.out.size _).setCell (p := ⟨w.heap.size, i, none⟩) (Nat.le_refl _) _, hMr⟩
      have Hg : Hid (updN g i wr.heap.size i = wr.heap.size) := hide (updN_same _ _ _)
      generalize updN g i wr.heap.size = g' at *
      generalize updN c i N = c' at *
      clear hM hMr HM
      go_wp2_with fail
      obtain ⟨wq, hwq⟩ : ∃ wq, wq = wr.heap.size := ⟨_, rfl⟩
      clear o0 of hm0
      rw [← hwq] at Hg
      simp only [← hwq] at *
      clear hwq
      go_loopw [7, 25] (fun _ q wx => ∃ k : Nat, k ≤ N ∧ q = .int .i64 k ∧ Hid (BegI w.heap.size w N Z g' c' i k wx)) (fun _ q _ => N - (intOf q).toNat)
      case atStart => exact ⟨0, Nat.zero_le _, rfl, HR⟩
      case round =>
        obtain ⟨k, hk, rfl, HJ⟩ := hrel
        by_cases hkl : k < N
        · have hki : (k : Int) < (N : Int) := by omega
          go_wp2_with fail
          refine wp_region_last 10 _ (BegI w.heap.size w N Z g' c' i k)
            (valsE [.slice (some ⟨w.heap.size, 0, none⟩) N N, .int .i64 i, .pointer (some ⟨w.heap.size, i, none⟩), .slice (some ⟨g' i, 0, none⟩) N N, .int .i64 k, .func (.func fid) #[] cap, .int .i64 i, .int .i64 k, .int .i64 (Z i k), .pointer (some ⟨g' i, k, none⟩)])
            (fun _ W => BegI w.heap.size w N Z g' c' i (k + 1) W) (fun _ _ _ => True) (by kernel_rfl) (by kernel_rfl) (by kernel_rfl) (by kernel_rfl) (by kernel_rfl) rfl (HJ.out.keep ⟨rfl, rfl, rfl, Nat.le_refl _, fun _ _ => rfl⟩) ⟨?_, ?_, ?_, ?_, ?_, ?_, ?_, ?_, ?_, ?_, trivial⟩ ?_ trivial ?_
          rotate_right
          · intro t W hG _
            have HG := hide hG
            clear hG
            simp only [fill, Act.put, List.setIfInBounds_toArray, List.set_cons_zero, List.set_cons_succ]
            go_wp2
            go_roundw
            case rel =>
              first
              | exact ⟨k + 1, by omega, by go_num, HG⟩
              | ((repeat apply Exists.intro); refine ⟨?_, rfl⟩; exact ⟨k + 1, by omega, by go_num, HG⟩)
            case measure => simp [intOf]; omega
          rotate_right
          · intro t W hG hE _ K hK
            have e8 := valsE_get (hE 8 (by omega)) rfl
            have e9 := valsE_get (hE 9 (by omega)) rfl
            have c1 := hG.made.cur.cell k
            rw [rowArr_get hkl, if_neg (Nat.lt_irrefl _)] at c1
            have cf := hG.made.cur.frozen k
            have hN' : BegI w.heap.size w N Z g' c' i (k + 1) (W.setCell ⟨g' i, k, none⟩ (.int .i64 (Z i k))) := ⟨hG.below.setCell (p := ⟨g' i, k, none⟩) (by rw [Hg.out]; exact hsz) _, hG.made.put⟩
            simp only [fill, Act.put, List.setIfInBounds_toArray, List.set_cons_zero, List.set_cons_succ, e8, e9] at hK ⊢
            rw [if_pos (by rfl)]
            go_simp
            exact hK undef _ hN'
          all_goals intro t W hG hp _ K hK
          all_goals simp only [fill, Act.put, List.setIfInBounds_toArray, List.set_cons_zero, List.set_cons_succ] at hK ⊢
          all_goals rw [if_pos (by rfl)]
          · go_simp
            exact hK _ W hG rfl (fun _ _ _ h => h)
          · go_simp
            exact hK _ W hG rfl (fun _ _ _ h => h)
          · have e0 := valsE_get (hp 0 (by decide)) rfl
            have e1 := valsE_get (hp 1 (by decide)) rfl
            simp only [e0, e1] at hK ⊢
            go_simp
            exact hK _ W hG rfl (fun _ _ _ h => h)
          · have e2 := valsE_get (hp 2 (by decide)) rfl
            have c1 := hG.made.out.cell i
            rw [outG_get hlt, if_pos (by omega), hG.made.room] at c1
            simp only [e2] at hK ⊢
            go_simp
            exact hK _ W hG rfl (fun _ _ _ h => h)
          · go_simp
            exact hK _ W hG rfl (fun _ _ _ h => h)
          · go_simp
            exact hK _ W hG rfl (fun _ _ _ h => h)
          · go_simp
            exact hK _ W hG rfl (fun _ _ _ h => h)
          · go_simp
            exact hK _ W hG rfl (fun _ _ _ h => h)
          · have e5 := valsE_get (hp 5 (by decide)) rfl
            have e6 := valsE_get (hp 6 (by decide)) rfl
            have e7 := valsE_get (hp 7 (by decide)) rfl
            simp only [e5, e6, e7] at hK ⊢
            go_simp
            refine (HO.out i k W hlt hkl hG.below).mono ?_
            rintro e W' ⟨rfl, hb⟩
            go_simp
            exact hK _ W' (hG.keep hb) rfl (fun _ _ _ h => h)
          · have e3 := valsE_get (hp 3 (by decide)) rfl
            have e4 := valsE_get (hp 4 (by decide)) rfl
            simp only [e3, e4] at hK ⊢
            go_simp
            exact hK _ W hG rfl (fun _ _ _ h => h)
        · have hkn : k = N := by omega
          subst hkn
          have HD : Hid (∃ g c : Nat → Nat, MadeI w.heap.size w.heap.size g c k k Z (i + 1) wr) := hide ⟨_, _, HJ.out.made.done⟩
          have HBn := hide HJ.out.below
          go_wp2
          go_roundw
          case rel =>
            first
            | exact ⟨i + 1, by omega, by go_num, HBn, HD⟩
            | ((repeat apply Exists.intro); refine ⟨?_, rfl⟩; exact ⟨i + 1, by omega, by go_num, HBn, HD⟩)
          case measure => simp [intOf]; omega
    · have hin : i = N := by omega
      subst hin
      obtain ⟨g, c, hM⟩ := HM.out
      obtain ⟨m, e1, e2, e3, e4⟩ := hM.mat (by omega) (by omega)
      have HF : Hid (Fresh i w.heap.size Z m wr) := hide ⟨e2, e3, e4⟩
      have He := hide e1
      clear hM e1 e2 e3 e4 HM
      go_wp2
      go_ret
      exact ⟨⟨m, congrArg Ending.returned He.out, HF.out⟩, HB.out⟩

theorem calls_begin1 (args : Array Value) (W : World) : (callFunc 83 args).run Try.prog W = .ok (.enter 83 args) W := by rfl

set_option maxHeartbeats 1000000 in
theorem begin1_any (n : NetM) (i j bx : Nat) (w : World) (h0 : 2 ≤ n.a.size) (h1 : n.a.size ≤ 24) (hb : Blk w bx n.cells 41) :
    Calls Try.prog 83 #[.int .i64 i, .int .i64 j, .pointer (some ⟨bx, 0, none⟩)] w fun e w' => e = .returned (.int .i64 (n.net.begin i j)) ∧ Below w.heap.size w w' := by
  have HO := hide (own_any n i j w h0 h1)
  have x0 := hb.cell 0
  have x1 := hb.cell 1
  have x2 := hb.cell 2
  have x3 := hb.cell 3
  have x4 := hb.cell 4
  simp [NetM.cells, Mat.val] at x0 x1 x2 x3 x4
  simp only [NetM.val, NetM.cells, Mat.val] at HO
  clear hb h0 h1
  go_enter Try.func83, Try.ntmps83
  go_wp2_with fail
  go_at_call 84
  refine HO.out.mono ?_
  rintro e w1 ⟨rfl, hb1⟩
  have HB := hide hb1
  clear hb1
  go_wp2
  go_ret
  exact ⟨rfl, HB.out⟩

set_option maxHeartbeats 4000000 in
theorem netBegin_ok (n : NetM) (w : World) (h : n.In w.heap.size w) (hck : n.net.check = 0) :
    Calls Try.prog 28 #[n.val] w fun e w' => (∃ m : Mat, e = .returned (.tuple #[m.val, .int .i64 0]) ∧ Fresh n.net.N w.heap.size n.net.begin m w') ∧ Below w.heap.size w w' := by
  have g := Net.good_of_check hck
  have lo := g.lo
  have hi6 := g.hi
  have hs0 : 2 ≤ n.a.size := g.law.good.lo
  have hs1 : n.a.size ≤ 24 := g.law.good.hi
  obtain ⟨N, hN⟩ : ∃ N : Nat, n.nodes = N := ⟨n.nodes.toNat, by have : n.net.nodes = n.nodes := rfl; omega⟩
  have hNN : n.net.N = N := by show n.nodes.toNat = N; omega
  have hN6 : N ≤ 6 := by have : n.net.nodes = n.nodes := rfl; omega
  have hN1 : 1 ≤ N := by have : n.net.nodes = n.nodes := rfl; omega
  have hB0 : Below w.heap.size w (w.alloc (.cells n.cells 41)) := (Below.refl _ w).alloc (Nat.le_refl _) _
  have HC := hide (netCheck_any n _ (h.grown hB0))
  rw [hck] at HC
  have hcells : n.cells = #[.int .i64 n.a.size, .slice n.a.B.ga n.a.B.t.len n.a.B.cap, .slice n.a.E.ga n.a.E.t.len n.a.E.cap, .int .i64 N, .slice n.la n.ln n.lc] := by simp only [NetM.cells, Mat.val, hN]
  have HO := hide (fun i j bx W (hb : Blk W bx n.cells 41) => begin1_any n i j bx W hs0 hs1 hb)
  have HNN := hide hNN
  simp only [NetM.val, hcells] at HC ⊢
  have Hcells := hide hcells
  clear hN hcells h hck hNN lo hi6 g hB0
  go_enter Try.func28, Try.ntmps28
  go_wp2_with fail
  go_at_call 70
  refine HC.out.mono ?_
  rintro e w1 ⟨rfl, hb1⟩
  have b1 := (Blk.new w n.cells 41).below (W' := w1) (by rw [Hcells.out]; exact hb1) (by simp)
  have hB1 : Below w.heap.size w w1 := ((Below.refl _ w).alloc (Nat.le_refl _) _).trans (hb1.mono (by simp))
  have x3 := b1.cell 3
  simp [Hcells.out] at x3
  have HFl := hide (filled_any 83 #[.pointer (some ⟨w.heap.size, 0, none⟩)] N n.net.begin w1 hN1 hN6 calls_begin1 (fun i j W _ _ hb => HO.out i j w.heap.size W (b1.below hb b1.lt)))
  have HB1 := hide hB1
  clear HC hb1 b1 hB1 HO
  go_wp2_with fail
  go_at_call 82
  refine HFl.out.mono ?_
  rintro e w2 ⟨⟨m, rfl, hm⟩, hb2⟩
  have HBw := hide (HB1.out.trans (hb2.mono HB1.out.size))
  have HF : Hid (Fresh n.net.N w.heap.size n.net.begin m w2) := hide (by rw [HNN.out]; exact ⟨hm.1, hm.2.1, hm.2.2.1.mono HB1.out.size, hm.2.2.2⟩)
  clear hm hb2 HFl
  simp only [Mat.val]
  go_wp2
  refine bodyPost_ret (v := .tuple #[.slice m.ga m.t.len m.cap, .int .i64 0]) (by simp [results, Try.results28, go_sem]) rfl ⟨⟨m, rfl, HF.out⟩, HBw.out⟩

set_option maxHeartbeats 1000000 in
theorem netBegin_bad (n : NetM) (w : World) (h : n.In w.heap.size w) (hck : n.net.check ≠ 0) :
    Calls Try.prog 28 #[n.val] w fun e w' => e = .returned (.tuple #[.slice none 0 0, .int .i64 n.net.check]) ∧ Below w.heap.size w w' := by
  have hB0 : Below w.heap.size w (w.alloc (.cells n.cells 41)) := (Below.refl _ w).alloc (Nat.le_refl _) _
  have HF := hide (netCheck_any n _ (h.grown hB0))
  generalize n.net.check = ft at *
  have hf' : (ft != 0) = true := by simp [hck]
  clear hck h
  simp only [NetM.val, NetM.cells, Mat.val] at *
  go_enter Try.func28, Try.ntmps28
  go_wp2_with fail
  go_at_call 70
  refine HF.out.mono ?_
  rintro e w1 ⟨rfl, hb1⟩
  have HB := hide (hB0.trans (hb1.mono hB0.size))
  clear HF hb1 hB0
  go_wp2
  exact bodyPost_ret (v := .tuple #[.slice none 0 0, .int .i64 ft]) (by simp [results, Try.results28, go_sem]) rfl ⟨rfl, HB.out⟩

end Go.Proofs.Ytjhkadffaephmab
