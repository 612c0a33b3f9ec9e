/-
  net.round, net.Round, net.Begin.
-/
import Derived.Test.YtjhkadffaephmabMadeRows
namespace Go.Proofs.Ytjhkadffaephmab
set_option maxRecDepth 100000
open Go.RowKit

/-- It is a state of the net. -/
structure Net.Is (n : Net) (t : Tab) : Prop where
  len : t.len = n.N
  wide : ∀ r, r < n.N → t.L r = n.N
  state : n.State t.Z

theorem Net.is_of_rows {n : Net} {t : Tab} (g : n.Good) (h : n.rows t = 0) : n.Is t := by
  have lo := g.lo
  unfold Net.rows at h
  split at h
  · cases h
  · next h1 =>
    split at h
    · cases h
    · next h2 =>
      have hl : (t.len : Int) = n.nodes := Classical.byContradiction fun e => h1 (Or.inl e)
      have hw : t.wide n.nodes = true := by
        cases e : t.wide n.nodes with
        | true => rfl
        | false => exact absurd (Or.inr e) h1
      have hr : t.routes n.a.size = true := by simpa using h2
      have hlen : t.len = n.N := by unfold Net.N; omega
      have hwide : ∀ r, r < n.N → t.L r = n.N := fun r hr => by
        have := (t.wide_iff n.nodes).1 hw r (by omega)
        unfold Net.N; omega
      exact ⟨hlen, hwide, fun i j hi hj => (t.routes_iff n.a.size).1 hr i (by omega) j (by rw [hwide i hi]; exact hj)⟩
theorem Net.is_of_fit {n : Net} {t : Tab} (h : n.fit t = 0) : n.check = 0 ∧ n.Is t := by
  unfold Net.fit at h
  by_cases hc : n.check = 0
  · rw [if_pos hc] at h
    exact ⟨hc, Net.is_of_rows (Net.good_of_check hc) h⟩
  · rw [if_neg hc] at h
    exact absurd h hc
theorem Net.Is.mk' {n : Net} {Z : Nat → Nat → Int} (h : n.State Z) : n.Is ⟨n.N, fun _ => n.N, Z⟩ := ⟨rfl, fun _ _ => rfl, h⟩

theorem calls_round1 (args : Array Value) (W : World) : (callFunc 153 args).run Try.prog W = .ok (.enter 153 args) W := by rfl

set_option maxHeartbeats 1000000 in
theorem round1_any (x : Mat) (k bx v j : Nat) (W : World) (hx : x.In k W) (hb : W.cell? ⟨bx, 0, none⟩ = some x.val) (hv : v < x.t.len) (hj : j < x.t.L v) :
    Calls Try.prog 153 #[.int .i64 v, .int .i64 j, .pointer (some ⟨bx, 0, none⟩)] W fun e w' => e = .returned (.int .i64 (x.t.Z v j)) ∧ ∃ m, w' = W.drewN m := by
  obtain ⟨a1, a2, a3⟩ := hx.at hv hj
  rw [Mat.val, a1] at hb
  have hvi : (v : Int) < (x.t.len : Int) := by omega
  have hji : (j : Int) < (x.t.L v : Int) := by omega
  clear hx a1
  go_enter Try.func153, Try.ntmps153
  go_wp2
  go_ret
  exact ⟨rfl, 0, rfl⟩

set_option maxHeartbeats 4000000 in
theorem round_any (n : NetM) (x : Mat) (w : World) (h : n.In w.heap.size w) (hx : x.In w.heap.size w) (hck : n.net.check = 0) (his : n.net.Is x.t) :
    Calls Try.prog 89 #[n.val, x.val] w fun e w' => (∃ m : Mat, e = .returned m.val ∧ Fresh n.net.N w.heap.size (n.net.round x.t.Z) m w') ∧ Below w.heap.size w w' := by
  have g := Net.good_of_check hck
  have lo := g.lo
  have hi6 := g.hi
  obtain ⟨N, hN⟩ : ∃ N : Nat, n.nodes = N := ⟨n.nodes.toNat, by have : n.net.nodes = n.nodes := rfl; omega⟩
  have hNN : n.net.N = N := by show n.nodes.toNat = N; omega
  have hN6 : N ≤ 6 := by have : n.net.nodes = n.nodes := rfl; omega
  obtain ⟨i2, hi2, hx0, hx1, hx2⟩ := info_parts Try.infoInts
  have hmkA : ∀ u : World, (Instr.makeSlice 36 (.int .i64 (N : Int)) (.int .i64 (N : Int))).run Try.prog u = .ok (.slice (some ⟨u.heap.size, 0, none⟩) N N) (u.alloc (.cells (madeCells #[.slice none 0 0] N) 22)) := fun u => by
    have h := run_make (P := Try.prog) u 36 22 i2 (.slice none 0 0) Try.underlying36 hi2 hx0 .i64 .i64 (N : Int) (N : Int) (by omega) (Int.le_refl _) (by rw [hx2]; omega) (by omega)
    simpa [hx1, Value.cells] using h
  have hcells : n.cells = #[.int .i64 n.a.size, .slice n.a.B.ga n.a.B.t.len n.a.B.cap, .slice n.a.E.ga n.a.E.t.len n.a.E.cap, .int .i64 N, .slice n.la n.ln n.lc] := by simp only [NetM.cells, Mat.val, hN]
  have H := hide h
  have HX := hide hx
  have HK := hide hck
  have HI := hide his
  have HNN := hide hNN
  simp only [NetM.val, Mat.val, hcells]
  have Hcells := hide hcells
  clear hN hcells h hx hck his hNN lo hi6 g
  go_enter Try.func89, Try.ntmps89
  go_wp2_with fail
  go_loopw [7, 14] (fun _ q wr => ∃ k : Nat, k ≤ N ∧ q = .int .i64 k ∧ Hid (Below (w.heap.size + 2) ((w.alloc (.cells n.cells 41)).alloc (.cells #[x.val] 36)) wr) ∧ Hid (∃ g c : Nat → Nat, MadeI w.heap.size (w.heap.size + 2) g c N N (n.net.round x.t.Z) k wr)) (fun _ q _ => N - (intOf q).toNat)
  case atStart =>
    refine ⟨0, Nat.zero_le _, rfl, hide ?_, hide ⟨fun _ => 0, fun _ => 0, ?_⟩⟩
    · rw [Hcells.out]
      exact (Below.refl _ _).alloc (by simp) _
    · have := MadeI.start ((w.alloc (.cells n.cells 41)).alloc (.cells #[x.val] 36)) w.heap.size N N (n.net.round x.t.Z) (by simp; omega)
      rw [Hcells.out] at this
      simp only [World.size_alloc] at this
      exact this
  case round =>
    obtain ⟨k, hk, rfl, HB, HM⟩ := hrel
    have hBw : Below w.heap.size w wr := (((Below.refl _ w).alloc (Nat.le_refl _) _).alloc (by simp) _).trans (HB.out.mono (by omega))
    by_cases hlt : k < N
    · have bN := ((Blk.new w n.cells 41).alloc (.cells #[x.val] 36)).below HB.out (by omega)
      have bX := (Blk.new (w.alloc (.cells n.cells 41)) #[x.val] 36).below HB.out (by simp)
      simp only [World.size_alloc] at bX
      have x0 := bN.cell 0
      have x1 := bN.cell 1
      have x2 := bN.cell 2
      have x3 := bN.cell 3
      have x4 := bN.cell 4
      simp [Hcells.out] at x0 x1 x2 x3 x4
      have HC := hide (look_any 153 #[.pointer (some ⟨w.heap.size + 1, 0, none⟩)] n k (fun j v => x.t.Z v j) wr (H.out.grown hBw) HK.out (fun j hj v hv => HI.out.state v j hv hj) calls_round1 (fun v j W hv hj hb => by
        have := round1_any x w.heap.size (w.heap.size + 1) v j W (HX.out.below (hBw.trans (hb.mono hBw.size)) (Nat.le_refl _)) ((bX.below hb bX.lt).cell 0) (by rw [HI.out.len]; exact hv) (by rw [HI.out.wide v hv]; exact hj)
        simpa using this))
      rw [HNN.out] at HC
      simp only [NetM.val, Hcells.out] at HC
      obtain ⟨g, c, hM⟩ := HM.out
      have hM0 := hM.out
      clear HM bX
      go_wp2_with fail
      go_at_call 154
      refine HC.out.mono ?_
      rintro e w2 ⟨rfl, hb2, hl2, hz2⟩
      have hM2 := hM.below hb2
      have o1 := hM2.out.cell k
      rw [outG_get hlt, if_neg (Nat.lt_irrefl _)] at o1
      have of := hM2.out.frozen k
      have hki : (k : Int) < (N : Int) := by omega
      have HM3 : Hid (∃ g c : Nat → Nat, MadeI w.heap.size (w.heap.size + 2) g c N N (n.net.round x.t.Z) (k + 1) (w2.setCell ⟨w.heap.size + 2, k, none⟩ (.slice (some ⟨wr.heap.size + 1, 0, none⟩) N N))) :=
        hide ⟨_, _, hM2.put (by have := hBw.size; omega) hl2 (by have := hM.out.lt; omega) hz2⟩
      have HB3 := hide ((HB.out.trans (hb2.mono (by have := HB.out.size; simp at this; omega))).setCell (p := ⟨w.heap.size + 2, k, none⟩) (Nat.le_refl _) (.slice (some ⟨wr.heap.size + 1, 0, none⟩) N N))
      clear hM hM0 hM2 hz2 hl2 hb2 HB HC x0 x1 x2 x3 x4 bN
      go_wp2
      go_roundw
      case rel =>
        first
        | exact ⟨k + 1, by omega, by go_num, HB3, HM3⟩
        | ((repeat apply Exists.intro); refine ⟨?_, rfl⟩; exact ⟨k + 1, by omega, by go_num, HB3, HM3⟩)
      case measure => simp [intOf]; omega
    · have hkn : k = N := by omega
      subst hkn
      have HBw := hide hBw
      clear hBw
      go_wp2
      go_ret
      obtain ⟨g, c, hM⟩ := HM.out
      obtain ⟨m, e1, e2, e3, e4⟩ := hM.mat (by omega) (by omega)
      exact ⟨⟨m, congrArg Ending.returned e1, by rw [HNN.out]; exact e2, e3, e4⟩, HBw.out⟩

set_option maxHeartbeats 1000000 in
theorem netRound_ok (n : NetM) (x : Mat) (w : World) (h : n.In w.heap.size w) (hx : x.In w.heap.size w) (hf : n.net.fit x.t = 0) :
    Calls Try.prog 114 #[n.val, x.val] w fun e w' => (∃ m : Mat, e = .returned (.tuple #[m.val, .int .i64 0]) ∧ Fresh n.net.N w.heap.size (n.net.round x.t.Z) m w') ∧ Below w.heap.size w w' := by
  have hB0 : Below w.heap.size w (w.alloc (.cells n.cells 41)) := (Below.refl _ w).alloc (Nat.le_refl _) _
  have b0 := Blk.new w n.cells 41
  have HF := hide (netFit_any n x _ (h.grown hB0) (hx.grown hB0))
  rw [hf] at HF
  obtain ⟨hc, hi⟩ := Net.is_of_fit hf
  have HR := hide (fun W (hb : Below w.heap.size w W) => round_any n x W (h.grown hb) (hx.grown hb) hc hi)
  clear hf hc hi h hx
  simp only [NetM.val, NetM.cells, Mat.val] at *
  go_enter Try.func114, Try.ntmps114
  go_wp2_with fail
  go_at_call 85
  refine HF.out.mono ?_
  rintro e w1 ⟨rfl, hb1⟩
  have hB1 := hB0.trans (hb1.mono hB0.size)
  have b1 := b0.below hb1 b0.lt
  have x0 := b1.cell 0
  have x1 := b1.cell 1
  have x2 := b1.cell 2
  have x3 := b1.cell 3
  have x4 := b1.cell 4
  simp at x0 x1 x2 x3 x4
  have HR1 := hide (HR.out w1 hB1)
  clear HR HF
  go_wp2_with fail
  go_at_call 89
  refine HR1.out.mono ?_
  rintro e w2 ⟨⟨m, rfl, hm⟩, hb2⟩
  have HM := hide hm
  have HB := hide (hB1.trans (hb2.mono hB1.size))
  have hsz := hB1.size
  clear hm hb2 HR1
  go_wp2
  refine bodyPost_ret (v := .tuple #[.slice m.ga m.t.len m.cap, .int .i64 0]) (by simp [results, Try.results114, go_sem]) rfl ?_
  exact ⟨⟨m, rfl, HM.out.1, HM.out.2.1, HM.out.2.2.1.mono hsz, HM.out.2.2.2⟩, HB.out⟩

set_option maxHeartbeats 1000000 in
theorem netRound_bad (n : NetM) (x : Mat) (w : World) (h : n.In w.heap.size w) (hx : x.In w.heap.size w) (hf : n.net.fit x.t ≠ 0) :
    Calls Try.prog 114 #[n.val, x.val] w fun e w' => e = .returned (.tuple #[.slice none 0 0, .int .i64 (n.net.fit x.t)]) ∧ Below w.heap.size w w' := by
  have hB0 : Below w.heap.size w (w.alloc (.cells n.cells 41)) := (Below.refl _ w).alloc (Nat.le_refl _) _
  have HF := hide (netFit_any n x _ (h.grown hB0) (hx.grown hB0))
  generalize n.net.fit x.t = ft at *
  have hf' : (ft != 0) = true := by simp [hf]
  clear hf h hx
  simp only [NetM.val, NetM.cells, Mat.val] at *
  go_enter Try.func114, Try.ntmps114
  go_wp2_with fail
  go_at_call 85
  refine HF.out.mono ?_
  rintro e w1 ⟨rfl, hb1⟩
  have HB := hide (hB0.trans (hb1.mono hB0.size))
  clear HF hb1 hB0
  go_wp2
  exact bodyPost_ret (v := .tuple #[.slice none 0 0, .int .i64 ft]) (by simp [results, Try.results114, go_sem]) rfl ⟨rfl, HB.out⟩

end Go.Proofs.Ytjhkadffaephmab
