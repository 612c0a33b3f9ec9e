/-
  Our own texts, bundled: a claim holds few files.
-/
import Derived.Test.YtjhkadffaephmabBundleFJ
import Derived.Test.YtjhkadffaephmabBundleEG
import Derived.Test.YtjhkadffaephmabBundleGB
import Derived.Test.YtjhkadffaephmabBundleFH
import Derived.Test.YtjhkadffaephmabBundleEH
/-
  slices.Clone at mail; state.Copy of what was told.
-/
namespace Go.Proofs.Ytjhkadffaephmab
set_option maxRecDepth 100000
open Go.RowKit

theorem mails_at (M : Nat → Mail) (p i : Nat) (hi : i < p) : ((List.range p).map M).getD i noMail = M i := by
  simp [List.getD_eq_getElem?_getD, hi]

/-- What a bag holds, cell by cell. -/
theorem BagM.news {x : BagM} {N : Nat} {w : World} (h : x.In N w) (j : Nat) (u : Value) (hu : (mailsL ((List.range x.bn).map x.M))[j]? = some u) : w.cell? ⟨x.bb, x.bo + j, none⟩ = some u := by
  have hj : j < x.bn * 3 := by
    have := (List.getElem?_eq_some_iff.1 hu).1
    rw [mailsL_len] at this
    simpa using this
  have hq : j / 3 < x.bn := by omega
  obtain ⟨m0, m1, m2⟩ := mailsL_get ((List.range x.bn).map x.M) (j / 3) (by simpa using hq)
  rw [mails_at x.M x.bn (j / 3) hq] at m0 m1 m2
  have h3 : j = j / 3 * 3 ∨ j = j / 3 * 3 + 1 ∨ j = j / 3 * 3 + 2 := by omega
  rcases h3 with e | e | e
  · rw [e] at hu ⊢
    rw [m0] at hu; cases hu
    have := h.c0 (j / 3) hq
    exact this
  · rw [e] at hu ⊢
    rw [m1] at hu; cases hu
    exact h.c1 (j / 3) hq
  · rw [e] at hu ⊢
    rw [m2] at hu; cases hu
    exact h.c2 (j / 3) hq

theorem append_zeroM (w : World) (ty : TypeId) (g : Nat) (ad : Option Addr) (q : Nat) :
    (Builtin.append_ #[43, 43] ty #[.slice (some ⟨g, 0, none⟩) 0 0, .slice ad 0 q]).run Try.prog w = .ok (.slice (some ⟨g, 0, none⟩) 0 0) w := by
  obtain ⟨i0, hi0, hq⟩ : ∃ i, Try.prog.info? 52 = some i ∧ (i.zero.map (fun z => z.cells.size), i.size, i.bytes) = (some 3, 3, 32) := Option.map_eq_some_iff.1 Try.infoMail
  cases ad <;> simp [Builtin.append_, run_underlying Try.underlying43, sizeOf, typeInfo, hi0, Builtin.lenOf, Builtin.firstCells, storeCells, loadCells, loadCellsFrom]

theorem mailsL_one' (l : List Mail) : ∀ u ∈ mailsL l, u.oneCell' = true := fun u hu => by
  simp only [mailsL, List.mem_flatMap] at hu
  obtain ⟨m, _, hu⟩ := hu
  simp at hu
  rcases hu with rfl | rfl | rfl <;> rfl

set_option maxHeartbeats 1000000 in
theorem cloneMail_any (x : BagM) (w : World) (h : x.In w.heap.size w) (hl : x.bn ≤ 120) :
    Calls Try.prog 138 #[.slice x.ba x.bn x.bc] w fun e w' => (∃ v, e = .returned v ∧ w'.ownsRow w.heap.size 52 3 v ((List.range x.bn).map x.M).length (mailsL ((List.range x.bn).map x.M))) ∧ Below w.heap.size w w' := by
  obtain ⟨i0, hi0, hq⟩ : ∃ i, Try.prog.info? 52 = some i ∧ (i.zero.map (fun z => z.cells.size), i.size, i.bytes) = (some 3, 3, 32) := Option.map_eq_some_iff.1 Try.infoMail
  obtain ⟨z, hz, hzs⟩ : ∃ z, i0.zero = some z ∧ z.cells.size = 3 := by
    have := congrArg Prod.fst hq
    simpa [Option.map_eq_some_iff] using this
  have hsz : i0.size = 3 := congrArg (fun x => x.2.1) hq
  have hby : i0.bytes = 32 := congrArg (fun x => x.2.2) hq
  have hBa : Below w.heap.size w (w.alloc (.cells #[] 52)) := (Below.refl _ w).alloc (Nat.le_refl _) _
  have hown0 : World.ownsRow (w.alloc (.cells #[] 52)) w.heap.size 52 3 (.slice (some ⟨w.heap.size, 0, none⟩) 0 0) 0 [] :=
    World.ownsRow_made w #[] 0 (base := w.heap.size) (e := 52) (size := 3) (Nat.le_refl _) (Nat.zero_le _) (by simp)
  obtain ⟨ba, bn, bc, bb, bo, M⟩ := x
  have hl' : bn ≤ 120 := hl
  have HBa := hide hBa
  have Hown := hide hown0
  by_cases hp : 0 < bn
  · obtain rfl : ba = some ⟨bb, bo, none⟩ := h.ba hp
    have hnews : ∀ j u, (mailsL ((List.range bn).map M))[j]? = some u → (w.alloc (.cells #[] 52)).cell? ((⟨bb, bo, none⟩ : Addr).add j) = some u := fun j u hu => by
      rw [Go.WideShapes.add_plain]
      exact BagM.news (h.below hBa (Nat.le_refl _)) j u hu
    have hlen : (mailsL ((List.range bn).map M)).length = bn * 3 := by rw [mailsL_len]; simp
    have hnil := Lib.run_eql_slice_nil (P := Try.prog) w 43 52 (some ⟨bb, bo, none⟩) bn bc 0 0 Try.underlying43
    have Hnews := hide hnews
    have Hone := hide (mailsL_one' ((List.range bn).map M))
    have Hll : Hid (((List.range bn).map M).length = bn) := hide (by simp)
    show Calls Try.prog _ #[.slice (some ⟨bb, bo, none⟩) bn bc] w fun e w' => (∃ v, e = .returned v ∧ w'.ownsRow w.heap.size 52 3 v ((List.range bn).map M).length (mailsL ((List.range bn).map M))) ∧ Below w.heap.size w w'
    generalize (List.range bn).map M = l at *
    clear h hBa hown0 hnews hq hl
    go_enter Try.func138, Try.ntmps138
    go_wp2_with (at_builtin; refine wpList_append_lies _ rfl _ _ _ rfl w.heap.size 52 i0 z 3 32 Try.underlying43 hi0 hz hsz hby hzs (by decide) _ 0 [] rfl Hown.out ⟨bb, bo, none⟩ bn bc (mailsL l) rfl hlen Hnews.out Hone.out hp ?c3 ?c4 ?c5 _ rfl ?_)
    all_goals try (case c3 => unfold maxLen; omega)
    all_goals try (case c4 => omega)
    all_goals try (case c5 => simp)
    intro g c w' hown hgrow hat hlt
    have hB : Below w.heap.size w w' := HBa.out.grown hgrow (by simp) (fun k hk => by cases hk; exact Nat.le_refl _)
    have HF : Hid (w'.ownsRow w.heap.size 52 3 (.slice (some ⟨g, 0, none⟩) bn c) l.length (mailsL l)) := hide (by
      rw [Hll.out]
      simpa using hown)
    have HB := hide hB
    clear hown hgrow hat hlt hB
    go_wp2
    go_ret
    exact ⟨⟨_, rfl, HF.out⟩, HB.out⟩
  · obtain rfl : bn = 0 := by omega
    clear h hBa hown0 hq hl
    show Calls Try.prog _ #[.slice ba 0 bc] w fun e w' => (∃ v, e = .returned v ∧ w'.ownsRow w.heap.size 52 3 v 0 []) ∧ Below w.heap.size w w'
    cases ba with
    | none =>
      have hnil := Lib.run_eql_slice_nil (P := Try.prog) w 43 52 none 0 bc 0 0 Try.underlying43
      go_enter Try.func138, Try.ntmps138
      go_wp2
      go_ret
      exact ⟨⟨_, rfl, World.ownsRow_nil _ _ _ _⟩, Below.refl _ _⟩
    | some ad =>
      have hnil := Lib.run_eql_slice_nil (P := Try.prog) w 43 52 (some ad) 0 bc 0 0 Try.underlying43
      go_enter Try.func138, Try.ntmps138
      go_wp2_with (at_builtin; refine Lib.wpList_append_run _ rfl _ _ _ _ rfl _ _ rfl rfl _ _ (append_zeroM _ _ _ _ _) ?_)
      go_ret
      exact ⟨⟨_, rfl, Hown.out⟩, HBa.out⟩

/-- So many rows of what was told are copied. -/
structure CopT (lo T N : Nat) (x : Mat) (vt : Array Value) (k : Nat) (W : World) : Prop where
  blk : Blk W T vt 22
  size : vt.size = N
  row : ∀ r, r < k → ∃ (a : Option Addr) (c b : Nat), vt[r]? = some (.slice a (x.t.L r) c) ∧ Ints a (x.t.L r) b 0 (x.t.Z r) W ∧ (0 < x.t.L r → lo ≤ b ∧ b < W.heap.size ∧ b ≠ T)
theorem CopT.below {lo T N : Nat} {x : Mat} {vt : Array Value} {k : Nat} {W W' : World} (h : CopT lo T N x vt k W) (hb : Below W.heap.size W W') : CopT lo T N x vt k W' :=
  ⟨h.blk.below hb h.blk.lt, h.size, fun r hr => by
    obtain ⟨a, c, b, h1, h2, h3⟩ := h.row r hr
    exact ⟨a, c, b, h1, h2.below hb (fun h0 => (h3 h0).2.1), fun h0 => ⟨(h3 h0).1, Nat.lt_of_lt_of_le (h3 h0).2.1 hb.size, (h3 h0).2.2⟩⟩⟩
theorem Ints.setOther {a : Option Addr} {l b o : Nat} {f : Nat → Int} {W : World} {T j : Nat} {u : Value} (h : Ints a l b o f W) (hne : 0 < l → b ≠ T) : Ints a l b o f (W.setCell ⟨T, j, none⟩ u) :=
  ⟨h.addr, fun i hi => by rw [cell_other (hne (by omega))]; exact h.cell i hi, h.len⟩
theorem CopT.put {lo T N : Nat} {x : Mat} {vt : Array Value} {k : Nat} {W : World} (h : CopT lo T N x vt k W) (hk : k < N) {a : Option Addr} {c b : Nat} (hi : Ints a (x.t.L k) b 0 (x.t.Z k) W) (hb : 0 < x.t.L k → lo ≤ b ∧ b < W.heap.size ∧ b ≠ T) :
    CopT lo T N x (vt.setIfInBounds k (.slice a (x.t.L k) c)) (k + 1) (W.setCell ⟨T, k, none⟩ (.slice a (x.t.L k) c)) :=
  ⟨h.blk.set _ _, by simpa using h.size, fun r hr => by
    by_cases e : r = k
    · subst e
      exact ⟨a, c, b, Array.getElem?_setIfInBounds_self_of_lt (by rw [h.size]; exact hk), hi.setOther (fun h0 => (hb h0).2.2), fun h0 => ⟨(hb h0).1, by simpa using (hb h0).2.1, (hb h0).2.2⟩⟩
    · obtain ⟨a', c', b', h1, h2, h3⟩ := h.row r (by omega)
      exact ⟨a', c', b', by rw [Array.getElem?_setIfInBounds_ne (by omega)]; exact h1, h2.setOther (fun h0 => (h3 h0).2.2), fun h0 => ⟨(h3 h0).1, by simpa using (h3 h0).2.1, (h3 h0).2.2⟩⟩⟩

set_option maxHeartbeats 2000000 in
theorem copyT_any (x : Mat) (N : Nat) (w : World) (h : x.In w.heap.size w) (hl : x.t.len = N) (hw : ∀ r, r < N → x.t.L r ≤ 100) (hN : N ≤ 100) :
    Calls Try.prog 87 #[x.val] w fun e w' => (∃ T vt, e = .returned (.slice (some ⟨T, 0, none⟩) N N) ∧ w.heap.size ≤ T ∧ CopT w.heap.size T N x vt N w') ∧ Below w.heap.size w w' := by
  obtain ⟨i2, hi2, hx0, hx1, hx2⟩ := info_parts Try.infoInts
  have hmkA : ∀ u : World, (Instr.makeSlice 36 (.int .i64 (N : Int)) (.int .i64 (N : Int))).run Try.prog u = .ok (.slice (some ⟨u.heap.size, 0, none⟩) N N) (u.alloc (.cells (madeCells #[.slice none 0 0] N) 22)) := fun u => by
    have h := run_make (P := Try.prog) u 36 22 i2 (.slice none 0 0) Try.underlying36 hi2 hx0 .i64 .i64 (N : Int) (N : Int) (by omega) (Int.le_refl _) (by rw [hx2]; omega) (by omega)
    simpa [hx1, Value.cells] using h
  have H := hide h
  have HW := hide hw
  have HL := hide hl
  simp only [Mat.val, hl]
  clear h hw hl
  go_enter Try.func87, Try.ntmps87
  go_wp2_with fail
  go_loopw [4, 5, 11] (fun _ _ q wr => ∃ k : Nat, k ≤ N ∧ q = .int .i64 k ∧ Hid (Below w.heap.size w wr) ∧ Hid (∃ vt, CopT w.heap.size w.heap.size N x vt k wr)) (fun _ _ q _ => N - (intOf q).toNat)
  case atStart => exact ⟨0, Nat.zero_le _, rfl, hide ((Below.refl _ _).alloc (Nat.le_refl _) _), hide ⟨_, Blk.new w _ _, size_madeCells _ _, fun r hr => absurd hr (Nat.not_lt_zero _)⟩⟩
  case round =>
    obtain ⟨k, hk, rfl, HB, HM⟩ := hrel
    by_cases hlt : k < N
    · have hkl : k < x.t.len := by rw [HL.out]; exact hlt
      have hI := H.out.below HB.out (Nat.le_refl _)
      have hga := hI.ga (by omega)
      have hrow := hI.row k hkl
      have hii : Ints (x.A k) (x.t.L k) (x.RB k) (x.RO k) (x.t.Z k) wr := hI.ints hkl
      have HC := hide (clone_all (x.A k) (x.t.L k) (x.C k) (x.RB k) (x.RO k) (x.t.Z k) wr hii (HW.out k hlt) (fun h0 => Nat.lt_of_lt_of_le (hI.addr k hkl h0).2 HB.out.size))
      have hki : (k : Int) < (N : Int) := by omega
      obtain ⟨vt, hM⟩ := HM.out
      clear HM hii hI
      go_wp2_with fail
      go_at_call 139
      refine HC.out.mono ?_
      rintro e w2 ⟨⟨a', c', b', rfl, hz, hg⟩, hb2⟩
      have hM2 := hM.below hb2
      have o1 := hM2.blk.cell k
      have hkv : k < vt.size := by rw [hM.size]; exact hlt
      rw [Array.getElem?_eq_getElem hkv] at o1
      have of := hM2.blk.frozen k
      have HM3 : Hid (∃ vt, CopT w.heap.size w.heap.size N x vt (k + 1) (w2.setCell ⟨w.heap.size, k, none⟩ (.slice a' (x.t.L k) c'))) :=
        hide ⟨_, hM2.put hlt hz (fun h0 => by have := hg h0; have := HB.out.size; have := hM.blk.lt; exact ⟨by omega, by omega, by omega⟩)⟩
      have HB3 := hide ((HB.out.trans (hb2.mono HB.out.size)).setCell (p := ⟨w.heap.size, k, none⟩) (Nat.le_refl _) (.slice a' (x.t.L k) c'))
      clear hM hM2 hz hg hb2 HB HC
      go_wp2
      go_roundw
      case rel =>
        first
        | exact ⟨k + 1, by omega, by go_num, HB3, HM3⟩
        | ((try rw [← hga]); (repeat apply Exists.intro); refine ⟨?_, rfl⟩; exact ⟨k + 1, by omega, by go_num, HB3, HM3⟩)
      case measure => simp [intOf]; omega
    · have hkn : k = N := by omega
      subst hkn
      obtain ⟨vt, hM⟩ := HM.out
      have HF := hide hM
      clear hM HM
      go_wp2
      go_ret
      exact ⟨⟨_, _, rfl, Nat.le_refl _, HF.out⟩, HB.out⟩

end Go.Proofs.Ytjhkadffaephmab

/-
  An engine that is copied, router by router.
-/
namespace Go.Proofs.Ytjhkadffaephmab
set_option maxRecDepth 100000
open Go.RowKit

/-- A block of its own, that no store goes to: behind mid, and none of those that hold what was told. -/
structure Lay.Far (y : Lay) (mid k : Nat) (W : World) (b : Nat) : Prop where
  lo : mid ≤ b
  lt : b < W.heap.size
  t : ∀ q, q < k → b ≠ y.Tb q

/-- So many routers are copied. -/
structure Parts (mid N : Nat) (e : Eng) (y : Lay) (k : Nat) (W : World) : Prop where
  rtrs : Blk W y.G y.vs 124
  size : y.vs.size = N * 2
  g : y.G < mid
  r0 : ∀ i, i < k → y.vs[i * 2]? = some (.slice (some ⟨y.rb i, 0, none⟩) N (y.rc i))
  r1 : ∀ i, i < k → y.vs[i * 2 + 1]? = some (.slice (some ⟨y.Tb i, 0, none⟩) N (y.Tc i))
  tolds : ∀ i, i < k → Blk W (y.Tb i) (y.vt i) 22
  t0 : ∀ i, i < k → ∀ q, q < N → (y.vt i)[q]? = some (.slice (y.ta i q) (if e.told i q = true then N else 0) (y.tc i q))
  routes : ∀ i, i < k → y.Far mid k W (y.rb i) ∧ ∀ j, j < N → W.cell? ⟨y.rb i, j, none⟩ = some (.int .i64 (e.R i j))
  rows : ∀ i, i < k → ∀ q, q < N → e.told i q = true → y.ta i q = some ⟨y.db i q, y.dn i q, none⟩ ∧ y.Far mid k W (y.db i q) ∧ ∀ j, j < N → W.cell? ⟨y.db i q, y.dn i q + j, none⟩ = some (.int .i64 (e.D i q j))
  lt : ∀ i, i < k → mid ≤ y.Tb i
  tt : ∀ i q, i < k → q < k → i ≠ q → y.Tb i ≠ y.Tb q
  ylo : y.lo = y.G

theorem Lay.Far.keep {y : Lay} {mid k : Nat} {W W' : World} {b : Nat} (h : y.Far mid k W b) (hs : W.heap.size ≤ W'.heap.size) : y.Far mid k W' b := ⟨h.lo, Nat.lt_of_lt_of_le h.lt hs, h.t⟩

theorem Parts.below {mid N : Nat} {e : Eng} {y : Lay} {k : Nat} {W W' : World} (h : Parts mid N e y k W) (hb : Below W.heap.size W W') : Parts mid N e y k W' where
  rtrs := h.rtrs.below hb h.rtrs.lt
  size := h.size
  g := h.g
  r0 := h.r0
  r1 := h.r1
  tolds := fun i hi => (h.tolds i hi).below hb (h.tolds i hi).lt
  t0 := h.t0
  routes := fun i hi => ⟨(h.routes i hi).1.keep hb.size, fun j hj => by rw [hb.cell (p := ⟨y.rb i, j, none⟩) (h.routes i hi).1.lt]; exact (h.routes i hi).2 j hj⟩
  rows := fun i hi q hq ht => ⟨(h.rows i hi q hq ht).1, (h.rows i hi q hq ht).2.1.keep hb.size, fun j hj => by rw [hb.cell (p := ⟨y.db i q, y.dn i q + j, none⟩) (h.rows i hi q hq ht).2.1.lt]; exact (h.rows i hi q hq ht).2.2 j hj⟩
  lt := h.lt
  tt := h.tt
  ylo := h.ylo

/-- The rows of what was told, with functions. -/
theorem CopT.funs {lo T N : Nat} {x : Mat} {vt : Array Value} {W : World} (h : CopT lo T N x vt N W) : ∃ F : Nat → Option Addr × Nat × Nat, ∀ r, r < N → vt[r]? = some (.slice (F r).1 (x.t.L r) (F r).2.1) ∧ Ints (F r).1 (x.t.L r) (F r).2.2 0 (x.t.Z r) W ∧ (0 < x.t.L r → lo ≤ (F r).2.2 ∧ (F r).2.2 < W.heap.size ∧ (F r).2.2 ≠ T) := by
  have h2 : ∀ r, ∃ t : Option Addr × Nat × Nat, r < N → vt[r]? = some (.slice t.1 (x.t.L r) t.2.1) ∧ Ints t.1 (x.t.L r) t.2.2 0 (x.t.Z r) W ∧ (0 < x.t.L r → lo ≤ t.2.2 ∧ t.2.2 < W.heap.size ∧ t.2.2 ≠ T) := fun r => by
    by_cases hr : r < N
    · obtain ⟨a, c, b, h1⟩ := h.row r hr
      exact ⟨(a, c, b), fun _ => h1⟩
    · exact ⟨(none, 0, 0), fun h0 => absurd h0 hr⟩
  obtain ⟨F, hF⟩ := Classical.axiomOfChoice h2
  exact ⟨F, fun r hr => hF r hr⟩

/-- The next router is copied. -/
theorem Parts.put {mid N : Nat} {e : Eng} {y : Lay} {k : Nat} {W : World} (h : Parts mid N e y k W) (hk : k < N) {x : Mat} {vt : Array Value} {lo b c T tc : Nat} (hlo : mid ≤ lo) (hnew : ∀ i, i < k → y.Tb i < lo) (hnew2 : ∀ i, i < k → y.rb i < lo) (hnew3 : ∀ i, i < k → ∀ q, q < N → e.told i q = true → y.db i q < lo)
    (hb : lo ≤ b) (hb2 : b < W.heap.size) (hbc : ∀ j, j < N → W.cell? ⟨b, j, none⟩ = some (.int .i64 (e.R k j))) (hbT : b ≠ T) (hT : lo ≤ T) (hc : CopT lo T N x vt N W)
    (hw : ∀ q, q < N → x.t.L q = if e.told k q = true then N else 0) (hz : ∀ q, q < N → x.t.Z q = e.D k q) (hN : 0 < N) :
    ∃ y', Parts mid N e y' (k + 1) ((W.setCell ⟨y.G, k * 2, none⟩ (.slice (some ⟨b, 0, none⟩) N c)).setCell ⟨y.G, k * 2 + 1, none⟩ (.slice (some ⟨T, 0, none⟩) N tc)) ∧ y'.G = y.G ∧ y'.gc = y.gc := by
  obtain ⟨F, hF⟩ := hc.funs
  obtain ⟨W2, hW2⟩ : ∃ W2, W2 = (W.setCell ⟨y.G, k * 2, none⟩ (.slice (some ⟨b, 0, none⟩) N c)).setCell ⟨y.G, k * 2 + 1, none⟩ (.slice (some ⟨T, 0, none⟩) N tc) := ⟨_, rfl⟩
  have hG := h.g
  have hws : W2.heap.size = W.heap.size := by rw [hW2]; simp
  have hcell : ∀ q j, mid ≤ q → W2.cell? ⟨q, j, none⟩ = W.cell? ⟨q, j, none⟩ := fun q j hq => by rw [hW2, cell_other (show q ≠ y.G by omega), cell_other (show q ≠ y.G by omega)]
  have hblk : ∀ q cs t, mid ≤ q → Blk W q cs t → Blk W2 q cs t := fun q cs t hq hb => by rw [hW2]; exact (hb.other (show q ≠ y.G by omega) _ _).other (show q ≠ y.G by omega) _ _
  obtain ⟨y', hy'⟩ : ∃ y' : Lay, y' = { y with vs := (y.vs.setIfInBounds (k * 2) (.slice (some ⟨b, 0, none⟩) N c)).setIfInBounds (k * 2 + 1) (.slice (some ⟨T, 0, none⟩) N tc), rb := fun r => if r = k then b else y.rb r, rc := fun r => if r = k then c else y.rc r, Tb := fun r => if r = k then T else y.Tb r, Tc := fun r => if r = k then tc else y.Tc r, vt := fun r => if r = k then vt else y.vt r, ta := fun r q => if r = k then (F q).1 else y.ta r q, tc := fun r q => if r = k then (F q).2.1 else y.tc r q, db := fun r q => if r = k then (F q).2.2 else y.db r q, dn := fun r q => if r = k then 0 else y.dn r q } := ⟨_, rfl⟩
  have hTb : ∀ r, y'.Tb r = if r = k then T else y.Tb r := fun r => by rw [hy']
  have hfar : ∀ q, y.Far mid k W q → q < lo → y'.Far mid (k + 1) W2 q := fun q hq hql => ⟨hq.lo, by rw [hws]; exact hq.lt, fun r hr => by
    rw [hTb]
    split
    · omega
    · exact hq.t r (by omega)⟩
  have hfarn : ∀ q, lo ≤ q → q < W.heap.size → q ≠ T → y'.Far mid (k + 1) W2 q := fun q h1 h2 h3 => ⟨by omega, by rw [hws]; exact h2, fun r hr => by
    rw [hTb]
    split
    · exact h3
    · have := hnew r (by omega); omega⟩
  rw [← hW2]
  refine ⟨y', ⟨?_, ?_, ?_, fun r hr => ?_, fun r hr => ?_, fun r hr => ?_, fun r hr q hq => ?_, fun r hr => ?_, fun r hr q hq ht => ?_, fun r hr => ?_, fun r q hr hq hne => ?_, by rw [hy']; exact h.ylo⟩, by rw [hy'], by rw [hy']⟩
  · have := (h.rtrs.set (k * 2) (.slice (some ⟨b, 0, none⟩) N c)).set (k * 2 + 1) (.slice (some ⟨T, 0, none⟩) N tc)
    rw [hy', hW2]; exact this
  · rw [hy']; simpa using h.size
  · rw [hy']; exact h.g
  · rw [hy']
    show ((y.vs.setIfInBounds (k * 2) _).setIfInBounds (k * 2 + 1) _)[r * 2]? = some (.slice (some ⟨if r = k then b else y.rb r, 0, none⟩) N (if r = k then c else y.rc r))
    rw [Array.getElem?_setIfInBounds_ne (by omega)]
    by_cases e1 : r = k
    · subst e1
      have := h.size
      rw [if_pos rfl, if_pos rfl, Array.getElem?_setIfInBounds_self_of_lt (by omega)]
    · rw [if_neg e1, if_neg e1, Array.getElem?_setIfInBounds_ne (by omega)]
      exact h.r0 r (by omega)
  · rw [hy']
    show ((y.vs.setIfInBounds (k * 2) _).setIfInBounds (k * 2 + 1) _)[r * 2 + 1]? = some (.slice (some ⟨if r = k then T else y.Tb r, 0, none⟩) N (if r = k then tc else y.Tc r))
    by_cases e1 : r = k
    · subst e1
      have := h.size
      rw [if_pos rfl, if_pos rfl, Array.getElem?_setIfInBounds_self_of_lt (by simp; omega)]
    · rw [if_neg e1, if_neg e1, Array.getElem?_setIfInBounds_ne (by omega), Array.getElem?_setIfInBounds_ne (by omega)]
      exact h.r1 r (by omega)
  · rw [hy']
    show Blk W2 (if r = k then T else y.Tb r) (if r = k then vt else y.vt r) _
    by_cases e1 : r = k
    · rw [if_pos e1, if_pos e1]
      exact hblk T _ _ (by omega) hc.blk
    · rw [if_neg e1, if_neg e1]
      exact hblk _ _ _ (h.lt r (by omega)) (h.tolds r (by omega))
  · rw [hy']
    show (if r = k then vt else y.vt r)[q]? = some (.slice (if r = k then (F q).1 else y.ta r q) (if e.told r q = true then N else 0) (if r = k then (F q).2.1 else y.tc r q))
    by_cases e1 : r = k
    · subst e1
      rw [if_pos rfl, if_pos rfl, if_pos rfl, ← hw q hq]
      exact (hF q hq).1
    · rw [if_neg e1, if_neg e1, if_neg e1]
      exact h.t0 r (by omega) q hq
  · have hrb : y'.rb r = if r = k then b else y.rb r := by rw [hy']
    rw [hrb]
    by_cases e1 : r = k
    · subst e1
      rw [if_pos rfl]
      exact ⟨hfarn b hb hb2 hbT, fun j hj => by rw [hcell _ _ (by omega)]; exact hbc j hj⟩
    · rw [if_neg e1]
      obtain ⟨h1, h2⟩ := h.routes r (by omega)
      exact ⟨hfar _ h1 (hnew2 r (by omega)), fun j hj => by rw [hcell _ _ h1.lo]; exact h2 j hj⟩
  · have e2 : y'.ta r q = if r = k then (F q).1 else y.ta r q := by rw [hy']
    have e3 : y'.db r q = if r = k then (F q).2.2 else y.db r q := by rw [hy']
    have e4 : y'.dn r q = if r = k then 0 else y.dn r q := by rw [hy']
    rw [e2, e3, e4]
    by_cases e1 : r = k
    · subst e1
      rw [if_pos rfl, if_pos rfl, if_pos rfl]
      obtain ⟨h1, h2, h3⟩ := hF q hq
      have hL := hw q hq
      rw [if_pos ht] at hL
      have h0 : 0 < x.t.L q := by omega
      refine ⟨h2.addr h0, hfarn _ (h3 h0).1 (h3 h0).2.1 (h3 h0).2.2, fun j hj => ?_⟩
      rw [hcell _ _ (by have := (h3 h0).1; omega), h2.cell j (by omega), hz q hq]
    · simp only [if_neg e1]
      obtain ⟨h1, h2, h3⟩ := h.rows r (by omega) q hq ht
      exact ⟨h1, hfar _ h2 (hnew3 r (by omega) q hq ht), fun j hj => by rw [hcell _ _ h2.lo]; exact h3 j hj⟩
  · rw [hTb]; split
    · omega
    · exact h.lt r (by omega)
  · rw [hTb, hTb]
    by_cases e1 : r = k
    · rw [if_pos e1, if_neg (by omega)]
      have := hnew q (by omega); omega
    · rw [if_neg e1]
      by_cases e2 : q = k
      · rw [if_pos e2]; have := hnew r (by omega); omega
      · rw [if_neg e2]; exact h.tt r q (by omega) (by omega) hne

/-- A copy, with its head, is an engine that may be changed. -/
theorem Parts.live {base mid N : Nat} {e : Eng} {y : Lay} {Bv : Value} {W : World} (h : Parts mid N e y N W) (hbag : W.ownsRow base 52 3 Bv e.bag.length (mailsL e.bag)) (hbm : ∀ g, Bv.ownBlock = some g → g < mid ∧ g ≠ y.G) (hbw : base ≤ W.heap.size) (hg : base ≤ y.G) :
    Live base W.heap.size N e Bv y (W.alloc (.cells #[.slice (some ⟨y.G, 0, none⟩) N y.gc, Bv] 45)) := by
  obtain ⟨W2, hW2⟩ : ∃ W2, W2 = W.alloc (.cells #[.slice (some ⟨y.G, 0, none⟩) N y.gc, Bv] 45) := ⟨_, rfl⟩
  have hb : Below W.heap.size W W2 := by rw [hW2]; exact (Below.refl _ W).alloc (Nat.le_refl _) _
  have h2 := h.below hb
  have hG := h.g
  have hGl := h.rtrs.lt
  have hoff : ∀ q, y.Far mid N W q → y.Off W.heap.size N Bv W2 q := fun q hq => ⟨by have := hq.lt; omega, by have := hq.lo; omega, hq.t, fun hv => by have := hbm q hv; have := hq.lo; omega, Nat.lt_of_lt_of_le hq.lt hb.size, by have := h.ylo; have := hq.lo; omega⟩
  have hown : W2.ownsRow base 52 3 Bv e.bag.length (mailsL e.bag) := owns_below hbag hb
  have hhead : Blk W2 W.heap.size #[.slice (some ⟨y.G, 0, none⟩) N y.gc, Bv] 45 := by rw [hW2]; exact Blk.new W _ _
  rw [← hW2]
  exact ⟨hhead, h2.rtrs, h2.r0, h2.r1, h2.tolds, h2.t0, fun i hi => ⟨hoff _ (h.routes i hi).1, (h2.routes i hi).2⟩, fun i hi q hq ht => ⟨(h.rows i hi q hq ht).1, hoff _ (h.rows i hi q hq ht).2.1, (h2.rows i hi q hq ht).2.2⟩, hown, hbw, hg, fun i hi => by have := h.lt i hi; omega, by omega, fun i hi => by have := (h.tolds i hi).lt; omega, fun i hi => by have := h.lt i hi; omega, h.tt, fun g hg' => ⟨by have := (hbag.lt g hg').2; omega, (hbm g hg').2, fun i hi => by have := hbm g hg'; have := h.lt i hi; omega⟩, by have := h.ylo; omega⟩

end Go.Proofs.Ytjhkadffaephmab

/-
  Engines that pass Check, and what an engine that was changed is.
-/
namespace Go.Proofs.Ytjhkadffaephmab
set_option maxRecDepth 100000
open Go.RowKit

/-- What an engine that passes Check has. -/
structure EngM.Right (x : EngM) (n : Net) (N : Nat) : Prop where
  check : n.check = 0
  gn : x.rs.gn = N
  rl : ∀ i, i < N → (x.rs.r i).rl = N
  tl : ∀ i, i < N → (x.rs.r i).T.t.len = N
  ll : ∀ i, i < N → ∀ q, q < N → (x.rs.r i).T.t.L q = if x.eng.told i q = true then N else 0
  bn : x.bag.bn ≤ 120
  fit : x.eng.Fit n

theorem EngM.right {x : EngM} {n : Net} {N : Nat} (h : x.err n = 0) (hN : n.nodes = (N : Int)) : x.Right n N := by
  unfold EngM.err at h
  split at h
  · next h1 => exact absurd h h1
  next hck0 =>
  have hck : n.check = 0 := by omega
  split at h
  · next h1 => exact absurd h h1
  next hrs0 =>
  have hrs : x.rs.err n = 0 := by omega
  have g := Net.good_of_check hck
  have hNN : n.N = N := by unfold Net.N; omega
  have hlo := g.lo
  unfold RtrsM.err at hrs
  split at hrs
  · exact absurd hrs (by decide)
  next hsh =>
  split at hrs
  · exact absurd hrs (by decide)
  next hso =>
  have hgn : x.rs.gn = N := by
    have : (x.rs.gn : Int) = n.nodes := by
      rcases Decidable.em ((x.rs.gn : Int) = n.nodes) with h1 | h1
      · exact h1
      · exact absurd (Or.inl h1) hsh
    omega
  have hshaped : ∀ i, i < N → (x.rs.r i).shaped n.nodes = true := fun i hi => by
    cases hs : (x.rs.r i).shaped n.nodes with
    | true => rfl
    | false => exact absurd (Or.inr (List.any_eq_true.2 ⟨i, by simpa using (by omega : i < x.rs.gn), by rw [hs]; rfl⟩)) hsh
  have hsound : ∀ i, i < N → (x.rs.r i).sound n.a.size = true := fun i hi => by
    cases hs : (x.rs.r i).sound n.a.size with
    | true => rfl
    | false => exact absurd (List.any_eq_true.2 ⟨i, by simpa using (by omega : i < x.rs.gn), by rw [hs]; rfl⟩) hso
  have hpart : ∀ i, i < N → (x.rs.r i).rl = N ∧ (x.rs.r i).T.t.len = N ∧ ∀ q, q < N → (x.rs.r i).T.t.L q = 0 ∨ (x.rs.r i).T.t.L q = N := fun i hi => by
    have := hshaped i hi
    unfold RtrM.shaped at this
    simp only [Bool.and_eq_true, beq_iff_eq, List.all_eq_true, List.mem_range, Bool.not_eq_true', Bool.and_eq_false_iff, bne_eq_false_iff_eq] at this
    obtain ⟨⟨h1, h2⟩, h3⟩ := this
    refine ⟨by omega, by omega, fun q hq => ?_⟩
    rcases h3 q (by omega) with h4 | h4
    · left; omega
    · right; omega
  have hll : ∀ i, i < N → ∀ q, q < N → (x.rs.r i).T.t.L q = if x.eng.told i q = true then N else 0 := fun i hi q hq => by
    show _ = if decide ((x.rs.r i).T.t.L q ≠ 0) = true then N else 0
    rcases (hpart i hi).2.2 q hq with h1 | h1
    · rw [h1]; simp
    · rw [h1, if_pos (by simp; omega)]
  have hsnd : ∀ i, i < N → (∀ j, j < N → 0 ≤ (x.rs.r i).R j ∧ (x.rs.r i).R j < n.a.size) ∧ ∀ q, q < N → ∀ j, j < (x.rs.r i).T.t.L q → 0 ≤ (x.rs.r i).T.t.Z q j ∧ (x.rs.r i).T.t.Z q j < n.a.size := fun i hi => by
    have := hsound i hi
    unfold RtrM.sound at this
    simp only [Bool.and_eq_true, List.all_eq_true, List.mem_range, rowIn_iff] at this
    obtain ⟨h1, h2⟩ := this
    obtain ⟨h3, h4, _⟩ := hpart i hi
    exact ⟨fun j hj => h1 j (by omega), fun q hq => h2 q (by omega)⟩
  unfold BagM.err at h
  split at h
  · exact absurd h (by decide)
  next hb1 =>
  split at h
  · exact absurd h (by decide)
  next hb2 =>
  split at h
  · exact absurd h (by decide)
  next hb3 =>
  have hbn : x.bag.bn ≤ 120 := by omega
  refine ⟨hck, hgn, fun i hi => (hpart i hi).1, fun i hi => (hpart i hi).2.1, hll, hbn, ⟨fun i j hi hj => ?_, fun i k j hi hk hj ht => ?_, ?_, fun m hm => ?_⟩⟩
  · rw [hNN] at hi hj
    exact (hsnd i hi).1 j hj
  · rw [hNN] at hi hk hj
    refine (hsnd i hi).2 k hk j ?_
    rw [hll i hi k hk, if_pos ht]
    exact hj
  · show ((List.range x.bag.bn).map x.bag.M).length ≤ 120
    simpa using hbn
  · have hm' : m ∈ (List.range x.bag.bn).map x.bag.M := hm
    simp only [List.mem_map, List.mem_range] at hm'
    obtain ⟨i, hi, rfl⟩ := hm'
    have h2 : ¬ ((List.range x.bag.bn).any fun i => !(decide (0 ≤ (x.bag.M i).F) && decide ((x.bag.M i).F < n.nodes)) || !(decide (0 ≤ (x.bag.M i).T) && decide ((x.bag.M i).T < n.nodes))) = true := hb2
    have h3 : ¬ ((List.range x.bag.bn).any fun i => decide (60 < (x.bag.M i).b.length)) = true := hb3
    have k2 : (!(decide (0 ≤ (x.bag.M i).F) && decide ((x.bag.M i).F < n.nodes)) || !(decide (0 ≤ (x.bag.M i).T) && decide ((x.bag.M i).T < n.nodes))) = false := by
      cases hc : (!(decide (0 ≤ (x.bag.M i).F) && decide ((x.bag.M i).F < n.nodes)) || !(decide (0 ≤ (x.bag.M i).T) && decide ((x.bag.M i).T < n.nodes))) with
      | false => rfl
      | true => exact absurd (List.any_eq_true.2 ⟨i, by simpa using hi, hc⟩) h2
    have k3 : decide (60 < (x.bag.M i).b.length) = false := by
      cases hc : decide (60 < (x.bag.M i).b.length) with
      | false => rfl
      | true => exact absurd (List.any_eq_true.2 ⟨i, by simpa using hi, hc⟩) h3
    simp at k2 k3
    exact ⟨k2.1, k2.2, by omega⟩

theorem EngM.of_right {x : EngM} {n : Net} {N : Nat} (h : x.Right n N) (hN : n.nodes = (N : Int)) : x.err n = 0 := by
  have g := Net.good_of_check h.check
  have hNN : n.N = N := by unfold Net.N; omega
  have h1 : x.rs.err n = 0 := by
    unfold RtrsM.err
    rw [if_neg, if_neg]
    · intro hh
      obtain ⟨i, hi, hf⟩ := List.any_eq_true.1 hh
      have hi' : i < N := by have := List.mem_range.1 hi; rw [h.gn] at this; exact this
      have : (x.rs.r i).sound n.a.size = true := by
        unfold RtrM.sound
        simp only [Bool.and_eq_true, List.all_eq_true, List.mem_range, rowIn_iff]
        rw [h.rl i hi', h.tl i hi']
        refine ⟨fun j hj => h.fit.R i j (by omega) (by omega), fun q hq j hj => ?_⟩
        rw [h.ll i hi' q hq] at hj
        split at hj
        · next ht => exact h.fit.D i q j (by omega) (by omega) (by omega) ht
        · exact absurd hj (Nat.not_lt_zero _)
      rw [this] at hf; cases hf
    · intro hh
      rcases hh with hh | hh
      · rw [h.gn] at hh; omega
      · obtain ⟨i, hi, hf⟩ := List.any_eq_true.1 hh
        have hi' : i < N := by have := List.mem_range.1 hi; rw [h.gn] at this; exact this
        have : (x.rs.r i).shaped n.nodes = true := by
          unfold RtrM.shaped
          simp only [Bool.and_eq_true, beq_iff_eq, List.all_eq_true, List.mem_range, Bool.not_eq_true', Bool.and_eq_false_iff, bne_eq_false_iff_eq]
          rw [h.rl i hi', h.tl i hi']
          refine ⟨⟨by omega, by omega⟩, fun q hq => ?_⟩
          rw [h.ll i hi' q hq]
          split
          · right; omega
          · left; rfl
        rw [this] at hf; cases hf
  have h2 : x.bag.err n = 0 := by
    have hm : ∀ i, i < x.bag.bn → (0 ≤ (x.bag.M i).F ∧ (x.bag.M i).F < n.nodes) ∧ (0 ≤ (x.bag.M i).T ∧ (x.bag.M i).T < n.nodes) ∧ (x.bag.M i).b.length ≤ 60 := fun i hi => h.fit.mail _ (List.mem_map.2 ⟨i, List.mem_range.2 hi, rfl⟩)
    unfold BagM.err
    rw [if_neg (by have := h.bn; omega), if_neg, if_neg]
    · intro hh
      obtain ⟨i, hi, hf⟩ := List.any_eq_true.1 hh
      have := hm i (List.mem_range.1 hi)
      simp at hf
      omega
    · intro hh
      obtain ⟨i, hi, hf⟩ := List.any_eq_true.1 hh
      have := hm i (List.mem_range.1 hi)
      simp at hf
      omega
  unfold EngM.err
  rw [if_neg (by have := h.check; omega), if_neg (by omega), h2]

end Go.Proofs.Ytjhkadffaephmab

/-
  engine.copied.
-/
namespace Go.Proofs.Ytjhkadffaephmab
set_option maxRecDepth 100000
open Go.RowKit

theorem CopT.mono {lo lo' T N : Nat} {x : Mat} {vt : Array Value} {k : Nat} {W : World} (h : CopT lo T N x vt k W) (hl : lo' ≤ lo) : CopT lo' T N x vt k W :=
  ⟨h.blk, h.size, fun r hr => by
    obtain ⟨a, c, b, h1, h2, h3⟩ := h.row r hr
    exact ⟨a, c, b, h1, h2, fun h0 => ⟨Nat.le_trans hl (h3 h0).1, (h3 h0).2⟩⟩⟩

/-- A store into a block ahead of mid that is not the routers'. -/
theorem Parts.setLow {mid N : Nat} {e : Eng} {y : Lay} {k : Nat} {W : World} (h : Parts mid N e y k W) {q j : Nat} (v : Value) (hq : q < mid) (hg : q ≠ y.G) : Parts mid N e y k (W.setCell ⟨q, j, none⟩ v) where
  rtrs := h.rtrs.other (Ne.symm hg) _ _
  size := h.size
  g := h.g
  r0 := h.r0
  r1 := h.r1
  tolds := fun i hi => (h.tolds i hi).other (by have := h.lt i hi; omega) _ _
  t0 := h.t0
  routes := fun i hi => ⟨(h.routes i hi).1.keep (by simp), fun j' hj => by rw [cell_other (by have := (h.routes i hi).1.lo; omega)]; exact (h.routes i hi).2 j' hj⟩
  rows := fun i hi s hs ht => ⟨(h.rows i hi s hs ht).1, (h.rows i hi s hs ht).2.1.keep (by simp), fun j' hj => by rw [cell_other (by have := (h.rows i hi s hs ht).2.1.lo; omega)]; exact (h.rows i hi s hs ht).2.2 j' hj⟩
  lt := h.lt
  tt := h.tt
  ylo := h.ylo

def CopAns (w : World) (N : Nat) (x : EngM) (r : Ending) (w' : World) : Prop :=
  ∃ mid Bv y, r = .returned (.agg #[.slice (some ⟨y.G, 0, none⟩) N y.gc, Bv]) ∧ Parts mid N x.eng y N w' ∧ w'.ownsRow w.heap.size 52 3 Bv x.eng.bag.length (mailsL x.eng.bag) ∧ (∀ g, Bv.ownBlock = some g → g < mid ∧ g ≠ y.G) ∧ w.heap.size ≤ y.G ∧ Below w.heap.size w w'

/-- What stands while an engine is copied. -/
structure CInv (w : World) (mid N : Nat) (x : EngM) (ob : Nat) (Bv : Value) (y : Lay) (k : Nat) (W : World) : Prop where
  below : Below w.heap.size w W
  box : Blk W w.heap.size x.cells 45
  res : Blk W (w.heap.size + 1) #[.slice none 0 0, .slice none 0 0] 45
  out : Blk W ob #[.slice (some ⟨y.G, 0, none⟩) N y.gc, Bv] 45
  bag : W.ownsRow w.heap.size 52 3 Bv x.eng.bag.length (mailsL x.eng.bag)
  parts : Parts mid N x.eng y k W
  lo : w.heap.size + 1 < y.G
  om : ob < mid ∧ w.heap.size + 1 < ob ∧ ob ≠ y.G
  bm : ∀ g, Bv.ownBlock = some g → g < mid ∧ g ≠ y.G ∧ w.heap.size + 1 < g ∧ g ≠ ob
  md : mid ≤ W.heap.size
theorem CInv.keep {w : World} {mid N : Nat} {x : EngM} {ob : Nat} {Bv : Value} {y : Lay} {k : Nat} {W W' : World} (h : CInv w mid N x ob Bv y k W) (hb : Below W.heap.size W W') : CInv w mid N x ob Bv y k W' :=
  ⟨h.below.trans (hb.mono h.below.size), h.box.below hb h.box.lt, h.res.below hb h.res.lt, h.out.below hb h.out.lt, owns_below h.bag hb, h.parts.below hb, h.lo, h.om, h.bm, Nat.le_trans h.md hb.size⟩

/-- A router's two cells are set. -/
theorem CInv.put {w : World} {mid N : Nat} {x : EngM} {ob : Nat} {Bv : Value} {y y' : Lay} {k : Nat} {W : World} (h : CInv w mid N x ob Bv y k W) {u v : Value} {i j : Nat} (hp : Parts mid N x.eng y' (k + 1) ((W.setCell ⟨y.G, i, none⟩ u).setCell ⟨y.G, j, none⟩ v)) (hG : y'.G = y.G) (hgc : y'.gc = y.gc) :
    CInv w mid N x ob Bv y' (k + 1) ((W.setCell ⟨y.G, i, none⟩ u).setCell ⟨y.G, j, none⟩ v) := by
  have hbg : Bv.ownBlock ≠ some y.G := fun e1 => (h.bm _ e1).2.1 rfl
  have hlo := h.lo
  exact ⟨(h.below.setCell (p := ⟨y.G, i, none⟩) (by show w.heap.size ≤ y.G; omega) _).setCell (p := ⟨y.G, j, none⟩) (by show w.heap.size ≤ y.G; omega) _, (h.box.other (by omega) _ _).other (by omega) _ _, (h.res.other (by omega) _ _).other (by omega) _ _, by rw [hG, hgc]; exact (h.out.other h.om.2.2 _ _).other h.om.2.2 _ _, ownsRow_setCell_other (ownsRow_setCell_other h.bag hbg _) hbg _, hp, by rw [hG]; exact h.lo, by rw [hG]; exact h.om, fun g hg => by rw [hG]; exact h.bm g hg, by simpa using h.md⟩

theorem type_ne {W : World} {a b : Nat} {u v : Array Value} {s t : TypeId} (ha : Blk W a u s) (hb : Blk W b v t) (hst : s ≠ t) : a ≠ b := fun e => by
  subst e
  unfold Blk at ha hb
  rw [ha] at hb
  cases hb
  exact hst rfl
theorem own_ne {W : World} {lo : Nat} {V : Value} {n : Nat} {xs : List Value} {b g : Nat} {u : Array Value} {s t : TypeId} {z : Nat} (ho : W.ownsRow lo t z V n xs) (hb : Blk W b u s) (hst : t ≠ s) (hg : V.ownBlock = some g) : g ≠ b := by
  obtain ⟨_, h2⟩ := ho
  rcases h2 with ⟨e0, _⟩ | ⟨g', cap, cur, e1, _, hk, _⟩
  · rw [e0] at hg; cases hg
  · rw [e1] at hg
    have : g' = g := by simpa [Value.ownBlock] using hg
    subst this
    exact type_ne hk hb hst

theorem own_form {W : World} {lo : Nat} {V : Value} {n : Nat} {xs : List Value} {t : TypeId} {z : Nat} (ho : W.ownsRow lo t z V n xs) : ∃ a c, V = .slice a n c := by
  rcases Go.Joins.ownsRow_forms ho with ⟨e0, e1⟩ | ⟨g, cap, e1⟩
  · exact ⟨none, 0, by rw [e0, e1]⟩
  · exact ⟨_, _, e1⟩

/-- What the operations that make the copy leave. -/
def madeR (N : Nat) : Array Value := madeCells #[.slice none 0 0, .slice none 0 0] (N * 2)
def copA (vs : List Value) (N : Nat) (x : EngM) (w1 : World) (k : Nat) (v : Value) (W : World) : Prop :=
  if k = 3 then ∃ g : Nat, v = .slice (some ⟨g, 0, none⟩) N N ∧ w1.heap.size ≤ g ∧ ∃ vs, vs.size = N * 2 ∧ Blk W g vs 124
  else if k = 6 then W.ownsRow w1.heap.size 52 3 v x.eng.bag.length (mailsL x.eng.bag)
  else if k = 7 then ∃ (g : Nat) (Bv : Value), v = .agg #[.slice (some ⟨g, 0, none⟩) N N, Bv] ∧ w1.heap.size ≤ g ∧ (∃ vs, vs.size = N * 2 ∧ Blk W g vs 124) ∧ W.ownsRow w1.heap.size 52 3 Bv x.eng.bag.length (mailsL x.eng.bag)
  else if k = 8 then ∃ ob : Nat, v = .pointer (some ⟨ob, 0, none⟩) ∧ w1.heap.size ≤ ob ∧ Blk W ob #[.slice none 0 0, .slice none 0 0] 45
  else vs[k]? = some v
theorem copA_keep {vs : List Value} {N : Nat} {x : EngM} {w1 : World} {k : Nat} {v : Value} {W W' : World} (hb : Below W.heap.size W W') (h : copA vs N x w1 k v W) : copA vs N x w1 k v W' := by
  unfold copA at h ⊢
  by_cases h3 : k = 3
  · rw [if_pos h3] at h ⊢
    obtain ⟨g, h1, h2, u, h4, h5⟩ := h
    exact ⟨g, h1, h2, u, h4, h5.below hb h5.lt⟩
  rw [if_neg h3] at h ⊢
  by_cases h6 : k = 6
  · rw [if_pos h6] at h ⊢
    exact owns_below h hb
  rw [if_neg h6] at h ⊢
  by_cases h7 : k = 7
  · rw [if_pos h7] at h ⊢
    obtain ⟨g, B, h1, h2, ⟨u, h4, h5⟩, h8⟩ := h
    exact ⟨g, B, h1, h2, ⟨u, h4, h5.below hb h5.lt⟩, owns_below h8 hb⟩
  rw [if_neg h7] at h ⊢
  by_cases h8 : k = 8
  · rw [if_pos h8] at h ⊢
    obtain ⟨o, h1, h2, h4⟩ := h
    exact ⟨o, h1, h2, h4.below hb h4.lt⟩
  rw [if_neg h8] at h ⊢
  exact h
theorem copA_get {vs : List Value} {N : Nat} {x : EngM} {w1 : World} {k : Nat} {v u : Value} {W : World} (h : copA vs N x w1 k v W) (hk : k ≠ 3 ∧ k ≠ 6 ∧ k ≠ 7 ∧ k ≠ 8) (hu : vs[k]? = some u) : v = u := by
  unfold copA at h
  rw [if_neg hk.1, if_neg hk.2.1, if_neg hk.2.2.1, if_neg hk.2.2.2, hu] at h
  exact (Option.some.inj h).symm

/-- What stands while a router is copied. -/
structure CG (w : World) (mid N : Nat) (x : EngM) (ob : Nat) (Bv : Value) (y : Lay) (k b5 : Nat) (rcs : Array Value) (w4 W : World) : Prop where
  inv : CInv w mid N x ob Bv y k W
  rt : Blk W b5 rcs 124
  below : Below w4.heap.size w4 W
theorem CG.keep {w : World} {mid N : Nat} {x : EngM} {ob : Nat} {Bv : Value} {y : Lay} {k b5 : Nat} {rcs : Array Value} {w4 W W' : World} (h : CG w mid N x ob Bv y k b5 rcs w4 W) (hb : Below W.heap.size W W') : CG w mid N x ob Bv y k b5 rcs w4 W' := ⟨h.inv.keep hb, h.rt.below hb h.rt.lt, h.below.trans (hb.mono h.below.size)⟩
def copB (vs : List Value) (N : Nat) (f : Nat → Int) (x : Mat) (w4 : World) (k : Nat) (v : Value) (W : World) : Prop :=
  if k = 5 then ∃ b c : Nat, v = .slice (some ⟨b, 0, none⟩) N c ∧ RowAt N f w4 W b
  else if k = 8 then ∃ (T : Nat) (vt : Array Value), v = .slice (some ⟨T, 0, none⟩) N N ∧ w4.heap.size ≤ T ∧ CopT w4.heap.size T N x vt N W
  else if k = 9 then ∃ (b c T : Nat) (vt : Array Value), v = .agg #[.slice (some ⟨b, 0, none⟩) N c, .slice (some ⟨T, 0, none⟩) N N] ∧ RowAt N f w4 W b ∧ w4.heap.size ≤ T ∧ CopT w4.heap.size T N x vt N W
  else vs[k]? = some v
theorem copB_keep {vs : List Value} {N : Nat} {f : Nat → Int} {x : Mat} {w4 : World} {k : Nat} {v : Value} {W W' : World} (hb : Below W.heap.size W W') (h : copB vs N f x w4 k v W) : copB vs N f x w4 k v W' := by
  unfold copB at h ⊢
  by_cases h5 : k = 5
  · rw [if_pos h5] at h ⊢
    obtain ⟨b, c, h1, h2⟩ := h
    exact ⟨b, c, h1, h2.keep hb⟩
  rw [if_neg h5] at h ⊢
  by_cases h8 : k = 8
  · rw [if_pos h8] at h ⊢
    obtain ⟨T, vt, h1, h2, h3⟩ := h
    exact ⟨T, vt, h1, h2, h3.below hb⟩
  rw [if_neg h8] at h ⊢
  by_cases h9 : k = 9
  · rw [if_pos h9] at h ⊢
    obtain ⟨b, c, T, vt, h1, h2, h3, h4⟩ := h
    exact ⟨b, c, T, vt, h1, h2.keep hb, h3, h4.below hb⟩
  rw [if_neg h9] at h ⊢
  exact h
theorem copB_get {vs : List Value} {N : Nat} {f : Nat → Int} {x : Mat} {w4 : World} {k : Nat} {v u : Value} {W : World} (h : copB vs N f x w4 k v W) (hk : k ≠ 5 ∧ k ≠ 8 ∧ k ≠ 9) (hu : vs[k]? = some u) : v = u := by
  unfold copB at h
  rw [if_neg hk.1, if_neg hk.2.1, if_neg hk.2.2, hu] at h
  exact (Option.some.inj h).symm

theorem Try.infoRouter : (Try.prog.info? 124).map (fun i => (i.zero, i.size, i.bytes)) = some (some (.agg #[.slice none 0 0, .slice none 0 0]), 2, 48) := by kernel_rfl

set_option maxHeartbeats 4000000 in
theorem copied_any (x : EngM) (N : Nat) (w : World) (h : x.In w.heap.size w) (hgn : x.rs.gn = N) (hN0 : 0 < N) (hN6 : N ≤ 6) (hbn : x.bag.bn ≤ 120) (hrl : ∀ i, i < N → (x.rs.r i).rl = N) (hTl : ∀ i, i < N → (x.rs.r i).T.t.len = N) (hLL : ∀ i, i < N → ∀ q, q < N → (x.rs.r i).T.t.L q = if x.eng.told i q = true then N else 0) :
    Calls Try.prog 73 #[x.val] w fun r w' => CopAns w N x r w' := by
  obtain ⟨i1, hi1, hy0, hy1, hy2⟩ := info_parts Try.infoRouter
  have hmkR : ∀ u : World, (Instr.makeSlice 42 (.int .i64 (N : Int)) (.int .i64 (N : Int))).run Try.prog u = .ok (.slice (some ⟨u.heap.size, 0, none⟩) N N) (u.alloc (.cells (madeCells #[.slice none 0 0, .slice none 0 0] (N * 2)) 124)) := fun u => by
    have h := run_make (P := Try.prog) u 42 124 i1 (.agg #[.slice none 0 0, .slice none 0 0]) Try.underlying42 hi1 hy0 .i64 .i64 (N : Int) (N : Int) (by omega) (Int.le_refl _) (by rw [hy2]; omega) (by omega)
    simpa [hy1, Value.cells] using h
  have hcells : x.cells = #[.slice x.rs.ga N x.rs.gc, .slice x.bag.ba x.bag.bn x.bag.bc] := by simp only [EngM.cells, hgn]
  obtain ⟨W1, hW1⟩ : ∃ W1, W1 = (w.alloc (.cells x.cells 45)).alloc (.cells #[.slice none 0 0, .slice none 0 0] 45) := ⟨_, rfl⟩
  have hB1 : Below w.heap.size w W1 := by rw [hW1]; exact ((Below.refl _ w).alloc (Nat.le_refl _) _).alloc (by simp) _
  have b1 : Blk W1 w.heap.size x.cells 45 := by rw [hW1]; exact (Blk.new w _ _).alloc _
  have b2 : Blk W1 (w.heap.size + 1) #[.slice none 0 0, .slice none 0 0] 45 := by rw [hW1]; exact Blk.new' (by simp)
  have hs1 : W1.heap.size = w.heap.size + 1 + 1 := by rw [hW1]; simp
  have hI1 := h.below hB1 (Nat.le_refl _)
  have HCm := hide (fun W (hb : Below W1.heap.size W1 W) => cloneMail_any x.bag W ((hI1.bag.below (hb.mono hB1.size) (Nat.le_refl _)).mono (Nat.le_trans hB1.size hb.size)) hbn)
  have Hmk := hide hmkR
  have H := hide h
  have HB1 := hide hB1
  have Hb1 := hide b1
  have Hb2 := hide b2
  have Hs1 := hide hs1
  have Hcells := hide hcells
  have Hrl := hide hrl
  have HTl := hide hTl
  have HLL := hide hLL
  have Hgn := hide hgn
  rw [hcells] at hW1
  rw [EngM.val, hcells]
  have HW1 := hide hW1
  clear h hI1 hB1 b1 b2 hs1 hcells hrl hTl hLL hgn hW1 hmkR hi1 hy0 hy1 hy2
  go_enter Try.func73, Try.ntmps73
  go_wp2_with fail
  rw [← HW1.out]
  refine wp_region_end 9 _ (fun W => Below W1.heap.size W1 W) (copA [.pointer (some ⟨w.heap.size, 0, none⟩), .slice x.rs.ga N x.rs.gc, .int .i64 (N : Int), undef, .pointer (some ⟨w.heap.size, 1, none⟩), .slice x.bag.ba x.bag.bn x.bag.bc] N x W1) (fun t W => ∃ (ob : Nat) (Bv : Value) (y : Lay), t 8 = .pointer (some ⟨ob, 0, none⟩) ∧ CInv w W.heap.size N x ob Bv y 0 W ∧ y.gc = N) (by kernel_rfl) (by kernel_rfl) (by kernel_rfl) (by kernel_rfl) (by kernel_rfl) rfl ⟨rfl, rfl, rfl, Nat.le_refl _, fun _ _ => rfl⟩ ⟨?_, ?_, ?_, ?_, ?_, ?_, ?_, ?_, ?_, trivial⟩ ?_ ?_
  rotate_right
  · intro t t0 W ht hG
    have h8 := ht 8 (by omega)
    clear ht
    simp only [fill, Act.put, List.setIfInBounds_toArray, List.set_cons_zero, List.set_cons_succ, Nat.zero_add, Nat.reduceAdd]
    obtain ⟨ob, Bv, y0, e8, hC, hgc⟩ := hG
    rw [e8] at h8
    simp only [h8]
    clear h8 e8
    have hga := H.out.rs.ga (by rw [Hgn.out]; exact hN0)
    obtain ⟨mid, hmid⟩ : ∃ mid, mid = W.heap.size := ⟨_, rfl⟩
    rw [← hmid] at hC
    have HC0 := hide (show ∃ y, CInv w mid N x ob Bv y 0 W ∧ y.gc = N from ⟨y0, hC, hgc⟩)
    have c0 := hC.box.cell 0
    simp [Hcells.out] at c0
    rw [hga] at c0
    simp only [hga]
    clear hC hgc hmid HCm Hmk hga Hb1 Hb2 HB1 HW1 Hs1
    go_wp2_with fail
    go_loopw [4, 5, 17] (fun _ _ q wr => ∃ k : Nat, k ≤ N ∧ q = .int .i64 k ∧ Hid (∃ y, CInv w mid N x ob Bv y k wr ∧ y.gc = N)) (fun _ _ q _ => N - (intOf q).toNat)
    case atStart => exact ⟨0, Nat.zero_le _, rfl, HC0⟩
    case round =>
      obtain ⟨k, hk, rfl, HI⟩ := hrel
      obtain ⟨y, hC, hgc⟩ := HI.out
      clear HI HC0
      by_cases hlt : k < N
      · have hki : (k : Int) < (N : Int) := by omega
        have hI := H.out.below hC.below (Nat.le_refl _)
        have hkg : k < x.rs.gn := by rw [Hgn.out]; exact hlt
        have r0 := hI.rs.c0 k hkg
        have r1 := hI.rs.c1 k hkg
        rw [Hrl.out k hlt] at r0
        rw [HTl.out k hlt] at r1
        have hIr := hI.rs.r k hkg
        have hints := hIr.ints
        have hilt := hIr.lt
        rw [Hrl.out k hlt] at hints hilt
        obtain ⟨W4, hW4⟩ : ∃ W4, W4 = wr.alloc (.cells #[.slice (x.rs.r k).ra N (x.rs.r k).rc, .slice (x.rs.r k).T.ga N (x.rs.r k).T.cap] 124) := ⟨_, rfl⟩
        have hB4 : Below wr.heap.size wr W4 := by rw [hW4]; exact (Below.refl _ wr).alloc (Nat.le_refl _) _
        have b5 : Blk W4 wr.heap.size #[.slice (x.rs.r k).ra N (x.rs.r k).rc, .slice (x.rs.r k).T.ga N (x.rs.r k).T.cap] 124 := by rw [hW4]; exact Blk.new wr _ _
        have hC4 := hC.keep hB4
        have HG4 : Hid (CG w mid N x ob Bv y k wr.heap.size #[.slice (x.rs.r k).ra N (x.rs.r k).rc, .slice (x.rs.r k).T.ga N (x.rs.r k).T.cap] W4 W4) := hide ⟨hC4, b5, Below.refl _ _⟩
        have HCl := hide (fun Wz (hb : Below W4.heap.size W4 Wz) => clone_any (x.rs.r k).ra N (x.rs.r k).rc (x.rs.r k).rb (x.rs.r k).ro (x.rs.r k).R Wz ((hints.below hB4 (fun h0 => Nat.lt_of_lt_of_le (hilt h0) hC.below.size)).below hb (fun h0 => Nat.lt_of_lt_of_le (hilt h0) (Nat.le_trans hC.below.size hB4.size))) hN0 (by omega) (Nat.lt_of_lt_of_le (hilt hN0) (Nat.le_trans hC.below.size (Nat.le_trans hB4.size hb.size))))
        have HCo := hide (fun Wz (hb : Below W4.heap.size W4 Wz) => copyT_any (x.rs.r k).T N Wz (((hIr.T.below (hB4.mono hC.below.size) (Nat.le_refl _)).below (hb.mono (Nat.le_trans hC.below.size hB4.size)) (Nat.le_refl _)).mono (Nat.le_trans hC.below.size (Nat.le_trans hB4.size hb.size))) (HTl.out k hlt) (fun q hq => by rw [HLL.out k hlt q hq]; split <;> omega) (by omega))
        simp only [Mat.val, HTl.out k hlt] at HCo
        have Hgc := hide hgc
        have HW4 := hide hW4
        clear hI hIr hints hilt hC hC4 hB4 b5 hgc hW4 hkg
        go_wp2_with fail
        rw [← HW4.out]
        refine wp_region_last 11 _ (CG w mid N x ob Bv y k wr.heap.size #[.slice (x.rs.r k).ra N (x.rs.r k).rc, .slice (x.rs.r k).T.ga N (x.rs.r k).T.cap] W4) (copB [.pointer (some ⟨ob, 0, none⟩), .slice (some ⟨y.G, 0, none⟩) N N, .int .i64 (k : Int), .pointer (some ⟨wr.heap.size, 0, none⟩), .slice (x.rs.r k).ra N (x.rs.r k).rc, undef, .pointer (some ⟨wr.heap.size, 1, none⟩), .slice (x.rs.r k).T.ga N (x.rs.r k).T.cap, undef, undef, .pointer (some ⟨y.G, k * 2, none⟩)] N (x.rs.r k).R (x.rs.r k).T W4) (fun _ W => ∃ y, CInv w mid N x ob Bv y (k + 1) W ∧ y.gc = N) (fun _ _ _ => True) (by kernel_rfl) (by kernel_rfl) (by kernel_rfl) (by kernel_rfl) (by kernel_rfl) rfl (HG4.out.keep ⟨rfl, rfl, rfl, Nat.le_refl _, fun _ _ => rfl⟩) ⟨?_, ?_, ?_, ?_, ?_, ?_, ?_, ?_, ?_, ?_, ?_, trivial⟩ ?_ trivial ?_
        rotate_right
        · intro t W hG _
          have HN := hide hG
          clear hG
          simp only [fill, Act.put, List.setIfInBounds_toArray, List.set_cons_zero, List.set_cons_succ]
          go_wp2
          go_roundw
          case rel =>
            first
            | exact ⟨k + 1, by omega, by go_num, HN⟩
            | ((repeat apply Exists.intro); refine ⟨?_, rfl⟩; exact ⟨k + 1, by omega, by go_num, HN⟩)
          case measure => simp [intOf]; omega
        rotate_right
        · intro t W hG hE _ K hK
          have e10 := copB_get (hE 10 (by omega)) (by decide) rfl
          have h9 : ∃ (b c T : Nat) (vt : Array Value), t 9 = .agg #[.slice (some ⟨b, 0, none⟩) N c, .slice (some ⟨T, 0, none⟩) N N] ∧ RowAt N (x.rs.r k).R W4 W b ∧ W4.heap.size ≤ T ∧ CopT W4.heap.size T N (x.rs.r k).T vt N W := hE 9 (by omega)
          simp only [fill, Act.put, List.setIfInBounds_toArray, List.set_cons_zero, List.set_cons_succ, e10] at hK ⊢
          rw [if_pos (by rfl)]
          obtain ⟨b, c, T, vt, e9, hb, hT, hc⟩ := h9
          have h4 := HG4.out.inv
          have hbT : b ≠ T := fun e1 => by
            have h1 := hb.2.2 0 hN0
            obtain ⟨a9, c9, b9, h2, _⟩ := hc.row 0 hN0
            have h3 := hc.blk.cell 0
            rw [h2, ← e1, h1] at h3
            cases h3
          obtain ⟨y', hp, hG', hgc'⟩ := hG.inv.parts.put (tc := N) (c := c) hlt h4.md (fun i hi => (h4.parts.tolds i hi).lt) (fun i hi => (h4.parts.routes i hi).1.lt) (fun i hi q hq ht => (h4.parts.rows i hi q hq ht).2.1.lt) hb.1 hb.2.1 hb.2.2 hbT hT hc (HLL.out k hlt) (fun q hq => rfl) hN0
          have hci := hG.inv.put hp hG' hgc'
          have HN := hide (show ∃ y, CInv w mid N x ob Bv y (k + 1) _ ∧ y.gc = N from ⟨y', hci, by rw [hgc']; exact Hgc.out⟩)
          have hvz := hG.inv.parts.size
          have g0 := hG.inv.parts.rtrs.cell (k * 2)
          have g1 := hG.inv.parts.rtrs.cell (k * 2 + 1)
          rw [Array.getElem?_eq_getElem (by omega)] at g0 g1
          have gf0 := hG.inv.parts.rtrs.frozen (k * 2)
          have gf1 := hG.inv.parts.rtrs.frozen (k * 2 + 1)
          simp only [e9] at hK ⊢
          clear hci hp hc hb e9 e10 hE h4
          go_simp
          exact hK undef _ HN.out
        all_goals intro t W hG hp ht K hK
        all_goals clear ht
        all_goals simp only [fill, Act.put, List.setIfInBounds_toArray, List.set_cons_zero, List.set_cons_succ] at hK ⊢
        · rw [if_pos (by rfl)]
          go_simp
          exact hK _ _ hG rfl (fun _ _ _ h => h)
        · have e0 := copB_get (hp 0 (by decide)) (by decide) rfl
          have o0 := hG.inv.out.cell 0
          simp at o0
          rw [Hgc.out] at o0
          simp only [e0] at hK ⊢
          rw [if_pos (by rfl)]
          go_simp
          exact hK _ _ hG rfl (fun _ _ _ h => h)
        · rw [if_pos (by rfl)]
          go_simp
          exact hK _ _ hG rfl (fun _ _ _ h => h)
        · rw [if_pos (by rfl)]
          go_simp
          exact hK _ _ hG rfl (fun _ _ _ h => h)
        · have e3 := copB_get (hp 3 (by decide)) (by decide) rfl
          have q0 := hG.rt.cell 0
          simp at q0
          simp only [e3] at hK ⊢
          rw [if_pos (by rfl)]
          go_simp
          exact hK _ _ hG rfl (fun _ _ _ h => h)
        · have e4 := copB_get (hp 4 (by decide)) (by decide) rfl
          simp only [e4] at hK ⊢
          rw [if_pos (by rfl)]
          go_simp
          go_at_call 139
          refine (HCl.out W hG.below).mono ?_
          rintro r W' ⟨q, c, rfl, hb, h1, h2, h3⟩
          go_simp
          exact hK _ W' (hG.keep hb) ⟨q, c, rfl, by have := hG.below.size; omega, h2, h3⟩ (fun _ _ _ h => copB_keep hb h)
        · rw [if_pos (by rfl)]
          go_simp
          exact hK _ _ hG rfl (fun _ _ _ h => h)
        · have e6 := copB_get (hp 6 (by decide)) (by decide) rfl
          have q1 := hG.rt.cell 1
          simp at q1
          simp only [e6] at hK ⊢
          rw [if_pos (by rfl)]
          go_simp
          exact hK _ _ hG rfl (fun _ _ _ h => h)
        · have e7 := copB_get (hp 7 (by decide)) (by decide) rfl
          simp only [e7] at hK ⊢
          rw [if_pos (by rfl)]
          go_simp
          go_at_call 87
          refine (HCo.out W hG.below).mono ?_
          rintro r W' ⟨⟨T, vt, rfl, h1, h2⟩, hb⟩
          go_simp
          exact hK _ W' (hG.keep hb) ⟨T, vt, rfl, by have := hG.below.size; omega, h2.mono hG.below.size⟩ (fun _ _ _ h => copB_keep hb h)
        · have h5 : ∃ b c : Nat, t 5 = .slice (some ⟨b, 0, none⟩) N c ∧ RowAt N (x.rs.r k).R W4 W b := hp 5 (by decide)
          have h8 : ∃ (T : Nat) (vt : Array Value), t 8 = .slice (some ⟨T, 0, none⟩) N N ∧ W4.heap.size ≤ T ∧ CopT W4.heap.size T N (x.rs.r k).T vt N W := hp 8 (by decide)
          obtain ⟨b, c, e5, hb⟩ := h5
          obtain ⟨T, vt, e8, hT, hc⟩ := h8
          simp only [e5, e8] at hK ⊢
          rw [if_pos (by rfl)]
          go_simp
          exact hK _ W hG ⟨b, c, T, vt, rfl, hb, hT, hc⟩ (fun _ _ _ h => h)
        · have e1 := copB_get (hp 1 (by decide)) (by decide) rfl
          have e2 := copB_get (hp 2 (by decide)) (by decide) rfl
          simp only [e1, e2] at hK ⊢
          rw [if_pos (by rfl)]
          go_simp
          exact hK _ _ hG rfl (fun _ _ _ h => h)
      · have hkn : k = N := by omega
        subst hkn
        obtain ⟨ba', bc', hBv⟩ := own_form hC.bag
        have o0 := hC.out.cell 0
        have o1 := hC.out.cell 1
        have s0 := hC.res.cell 0
        have s1 := hC.res.cell 1
        have sf0 := hC.res.frozen 0
        have sf1 := hC.res.frozen 1
        have hres2 := (hC.res.set 0 (.slice (some ⟨y.G, 0, none⟩) k y.gc)).set 1 Bv
        have e0 := hres2.cell 0
        have e1 := hres2.cell 1
        simp at o0 o1 s0 s1 e0 e1
        have hlo := hC.lo
        have hom := hC.om
        have hbv : Bv.ownBlock ≠ some (w.heap.size + 1) := fun e2 => by have := (hC.bm _ e2).2.2.1; omega
        have HF : Hid (CopAns w k x (.returned (.agg #[.slice (some ⟨y.G, 0, none⟩) k y.gc, Bv])) ((wr.setCell ⟨w.heap.size + 1, 0, none⟩ (.slice (some ⟨y.G, 0, none⟩) k y.gc)).setCell ⟨w.heap.size + 1, 1, none⟩ Bv)) := hide ⟨mid, Bv, y, rfl, (hC.parts.setLow _ (by omega) (by omega)).setLow _ (by omega) (by omega), ownsRow_setCell_other (ownsRow_setCell_other hC.bag hbv _) hbv _, fun g hg => ⟨(hC.bm g hg).1, (hC.bm g hg).2.1⟩, by omega, (hC.below.setCell (p := ⟨w.heap.size + 1, 0, none⟩) (by show w.heap.size ≤ w.heap.size + 1; omega) _).setCell (p := ⟨w.heap.size + 1, 1, none⟩) (by show w.heap.size ≤ w.heap.size + 1; omega) _⟩
        rw [hBv] at o1 e0 e1 HF
        clear hC hres2 hbv hBv hlo hom hgc
        go_wp2
        exact bodyPost_ret (v := .agg #[.slice (some ⟨y.G, 0, none⟩) k y.gc, .slice ba' x.eng.bag.length bc']) (by simp [results, Try.results73, go_sem, e0, e1]) rfl HF.out
  rotate_right
  · intro t W hG hE _ K hK
    have h7 : ∃ (g : Nat) (Bv : Value), t 7 = .agg #[.slice (some ⟨g, 0, none⟩) N N, Bv] ∧ W1.heap.size ≤ g ∧ (∃ vs, vs.size = N * 2 ∧ Blk W g vs 124) ∧ W.ownsRow W1.heap.size 52 3 Bv x.eng.bag.length (mailsL x.eng.bag) := hE 7 (by omega)
    have h8 : ∃ ob : Nat, t 8 = .pointer (some ⟨ob, 0, none⟩) ∧ W1.heap.size ≤ ob ∧ Blk W ob #[.slice none 0 0, .slice none 0 0] 45 := hE 8 (by omega)
    simp only [fill, Act.put, List.setIfInBounds_toArray, List.set_cons_zero, List.set_cons_succ, Nat.zero_add, Nat.reduceAdd] at hK ⊢
    rw [if_pos (by rfl)]
    obtain ⟨g, Bv, e7, hg, ⟨vs, hvs, hbg⟩, hown⟩ := h7
    obtain ⟨ob, e8, hob, hbo⟩ := h8
    obtain ⟨ba', bc', rfl⟩ := own_form hown
    have hgo : g ≠ ob := type_ne hbg hbo (by decide)
    have hs := Hs1.out
    have hbo2 := (hbo.set 0 (.slice (some ⟨g, 0, none⟩) N N)).set 1 (.slice ba' x.eng.bag.length bc')
    have hBwo : ∀ q, (Value.slice ba' x.eng.bag.length bc').ownBlock = some q → q < W.heap.size ∧ q ≠ g ∧ w.heap.size + 1 < q ∧ q ≠ ob := fun q hq => ⟨(hown.lt q hq).2, own_ne hown hbg (by decide) hq, by have := (hown.lt q hq).1; omega, own_ne hown hbo (by decide) hq⟩
    have hbv : (Value.slice ba' x.eng.bag.length bc').ownBlock ≠ some ob := fun e1 => (hBwo _ e1).2.2.2 rfl
    have hown2 : World.ownsRow ((W.setCell ⟨ob, 0, none⟩ (.slice (some ⟨g, 0, none⟩) N N)).setCell ⟨ob, 1, none⟩ (.slice ba' x.eng.bag.length bc')) w.heap.size 52 3 (.slice ba' x.eng.bag.length bc') x.eng.bag.length (mailsL x.eng.bag) := by
      refine ownsRow_setCell_other (ownsRow_setCell_other ?_ hbv _) hbv _
      refine ⟨hown.1, ?_⟩
      rcases hown.2 with h | ⟨g9, cap, cur, h1, h2, h3⟩
      · exact Or.inl h
      · exact Or.inr ⟨g9, cap, cur, h1, by omega, h3⟩
    have hCI : ∃ (ob' : Nat) (B2 : Value) (y : Lay), t 8 = .pointer (some ⟨ob', 0, none⟩) ∧ CInv w ((W.setCell ⟨ob, 0, none⟩ (.slice (some ⟨g, 0, none⟩) N N)).setCell ⟨ob, 1, none⟩ (.slice ba' x.eng.bag.length bc')).heap.size N x ob' B2 y 0 ((W.setCell ⟨ob, 0, none⟩ (.slice (some ⟨g, 0, none⟩) N N)).setCell ⟨ob, 1, none⟩ (.slice ba' x.eng.bag.length bc')) ∧ y.gc = N := by
      have hbb := Hb1.out.below hG Hb1.out.lt
      have hbr := Hb2.out.below hG Hb2.out.lt
      refine ⟨ob, .slice ba' x.eng.bag.length bc', ⟨g, N, vs, fun _ => 0, fun _ => 0, fun _ => 0, fun _ => 0, fun _ => #[], fun _ _ => none, fun _ _ => 0, fun _ _ => 0, fun _ _ => 0, g⟩, e8, ⟨?_, (hbb.other (by omega) _ _).other (by omega) _ _, (hbr.other (by omega) _ _).other (by omega) _ _, ?_, hown2, ⟨(hbg.other hgo _ _).other hgo _ _, hvs, ?_, fun i hi => absurd hi (Nat.not_lt_zero _), fun i hi => absurd hi (Nat.not_lt_zero _), fun i hi => absurd hi (Nat.not_lt_zero _), fun i hi => absurd hi (Nat.not_lt_zero _), fun i hi => absurd hi (Nat.not_lt_zero _), fun i hi => absurd hi (Nat.not_lt_zero _), fun i hi => absurd hi (Nat.not_lt_zero _), fun i q hi => absurd hi (Nat.not_lt_zero _), rfl⟩, ?_, ⟨?_, ?_, Ne.symm hgo⟩, fun q hq => ?_, Nat.le_refl _⟩, rfl⟩
      · exact (((HB1.out.trans (hG.mono HB1.out.size)).setCell (p := ⟨ob, 0, none⟩) (by show w.heap.size ≤ ob; omega) _).setCell (p := ⟨ob, 1, none⟩) (by show w.heap.size ≤ ob; omega) _)
      · simpa using hbo2
      · show g < (World.heap _).size; have := hbg.lt; simpa using this
      · show w.heap.size + 1 < g; omega
      · have := hbo.lt; simpa using this
      · omega
      · obtain ⟨q1, q2, q3, q4⟩ := hBwo q hq
        exact ⟨by simpa using q1, q2, q3, q4⟩
    have c0 := hbo.cell 0
    have c1 := hbo.cell 1
    have f0 := hbo.frozen 0
    have f1 := hbo.frozen 1
    simp at c0 c1
    have HCI := hide hCI
    simp only [e7, e8] at hK ⊢
    simp only [e8] at HCI
    clear hCI hown2 hbv hBwo hbo2 hgo hbo hbg hown hE e7 e8
    go_simp
    exact hK undef _ HCI.out
  all_goals intro t W hG hp ht K hK
  all_goals clear ht
  all_goals simp only [fill, Act.put, List.setIfInBounds_toArray, List.set_cons_zero, List.set_cons_succ] at hK ⊢
  · rw [if_pos (by rfl)]
    go_simp
    exact hK _ _ hG rfl (fun _ _ _ h => h)
  · have e0 := copA_get (hp 0 (by decide)) (by decide) rfl
    have x0 := (Hb1.out.below hG Hb1.out.lt).cell 0
    simp [Hcells.out] at x0
    simp only [e0] at hK ⊢
    rw [if_pos (by rfl)]
    go_simp
    exact hK _ _ hG rfl (fun _ _ _ h => h)
  · have e1 := copA_get (hp 1 (by decide)) (by decide) rfl
    simp only [e1] at hK ⊢
    rw [if_pos (by rfl)]
    go_simp
    exact hK _ _ hG rfl (fun _ _ _ h => h)
  · have e2 := copA_get (hp 2 (by decide)) (by decide) rfl
    have hm := Hmk.out W
    simp only [e2] at hK ⊢
    rw [if_pos (by rfl)]
    go_simp
    have hbw : Below W.heap.size W (W.alloc (.cells (madeCells #[.slice none 0 0, .slice none 0 0] (N * 2)) 124)) := (Below.refl _ W).alloc (Nat.le_refl _) _
    exact hK _ _ (hG.trans (hbw.mono hG.size)) ⟨W.heap.size, rfl, hG.size, _, size_madeCells _ _, Blk.new W _ _⟩ (fun _ _ _ h => copA_keep hbw h)
  · rw [if_pos (by rfl)]
    go_simp
    exact hK _ _ hG rfl (fun _ _ _ h => h)
  · have e4 := copA_get (hp 4 (by decide)) (by decide) rfl
    have x1 := (Hb1.out.below hG Hb1.out.lt).cell 1
    simp [Hcells.out] at x1
    simp only [e4] at hK ⊢
    rw [if_pos (by rfl)]
    go_simp
    exact hK _ _ hG rfl (fun _ _ _ h => h)
  · have e5 := copA_get (hp 5 (by decide)) (by decide) rfl
    simp only [e5] at hK ⊢
    rw [if_pos (by rfl)]
    go_simp
    go_at_call 138
    refine (HCm.out W hG).mono ?_
    rintro r W' ⟨⟨v, rfl, ho⟩, hb⟩
    go_simp
    exact hK _ W' (hG.trans (hb.mono hG.size)) (by show World.ownsRow W' W1.heap.size 52 3 v _ _; refine ⟨ho.1, ?_⟩; rcases ho.2 with h | ⟨g9, cap, cur, h1, h2, h3⟩; exact Or.inl h; exact Or.inr ⟨g9, cap, cur, h1, Nat.le_trans hG.size h2, h3⟩) (fun _ _ _ h => copA_keep hb h)
  · have h3 : ∃ g : Nat, t 3 = .slice (some ⟨g, 0, none⟩) N N ∧ W1.heap.size ≤ g ∧ ∃ vs, vs.size = N * 2 ∧ Blk W g vs 124 := hp 3 (by decide)
    have h6 : W.ownsRow W1.heap.size 52 3 (t 6) x.eng.bag.length (mailsL x.eng.bag) := hp 6 (by decide)
    obtain ⟨g, e3, hg, hb⟩ := h3
    obtain ⟨ba', bc', e6⟩ := own_form h6
    rw [e6] at h6
    simp only [e3, e6] at hK ⊢
    rw [if_pos (by rfl)]
    go_simp
    exact hK _ W hG ⟨g, _, rfl, hg, hb, h6⟩ (fun _ _ _ h => h)
  · rw [if_pos (by rfl)]
    go_simp
    have hbw : Below W.heap.size W (W.alloc (.cells #[.slice none 0 0, .slice none 0 0] 45)) := (Below.refl _ W).alloc (Nat.le_refl _) _
    exact hK _ _ (hG.trans (hbw.mono hG.size)) ⟨W.heap.size, rfl, hG.size, Blk.new W _ _⟩ (fun _ _ _ h => copA_keep hbw h)

end Go.Proofs.Ytjhkadffaephmab

/-
  An engine that was changed, as one that lies in memory.
-/
namespace Go.Proofs.Ytjhkadffaephmab
set_option maxRecDepth 100000
open Go.RowKit

theorem range_getD (l : List Mail) : (List.range l.length).map (fun i => l.getD i noMail) = l := by
  apply List.ext_getElem?
  intro i
  by_cases h : i < l.length
  · simp [List.getElem?_map, List.getElem?_range h, List.getD_eq_getElem?_getD, List.getElem?_eq_getElem h]
  · rw [List.getElem?_eq_none (by simp; omega), List.getElem?_eq_none (by omega)]

/-- All that an engine holds lies from lo on. -/
structure EngM.From (x : EngM) (lo : Nat) : Prop where
  g : 0 < x.rs.gn → lo ≤ x.rs.gb
  r : ∀ i, i < x.rs.gn → (0 < (x.rs.r i).rl → lo ≤ (x.rs.r i).rb) ∧ (x.rs.r i).T.From lo
  b : 0 < x.bag.bn → lo ≤ x.bag.bb
  cap : x.bag.bn ≤ x.bag.bc
theorem EngM.From.mono {x : EngM} {lo lo' : Nat} (h : x.From lo) (hl : lo' ≤ lo) : x.From lo' :=
  ⟨fun h0 => Nat.le_trans hl (h.g h0), fun i hi => ⟨fun h0 => Nat.le_trans hl ((h.r i hi).1 h0), (h.r i hi).2.mono hl⟩, fun h0 => Nat.le_trans hl (h.b h0), h.cap⟩

theorem own_cap {W : World} {lo : Nat} {a : Option Addr} {k c n : Nat} {xs : List Value} {t : TypeId} {z : Nat} (ho : W.ownsRow lo t z (.slice a k c) n xs) (hk : k = n) : k ≤ c := by
  obtain ⟨_, h2⟩ := ho
  rcases h2 with ⟨e0, e1⟩ | ⟨g, cap, cur, e1, _, _, hn, _⟩
  · have : k = 0 := by simpa using congrArg (fun v => match v with | Value.slice _ l _ => l | _ => 0) e0
    omega
  · have h1 : c = cap := by simpa using congrArg (fun v => match v with | Value.slice _ _ d => d | _ => 0) e1
    omega
structure Mat.Clear (m : Mat) (q : Nat) : Prop where
  gb : 0 < m.t.len → m.gb ≠ q
  rows : ∀ r, r < m.t.len → 0 < m.t.L r → m.RB r ≠ q
structure EngM.Clear (x : EngM) (q : Nat) : Prop where
  g : 0 < x.rs.gn → x.rs.gb ≠ q
  r : ∀ i, i < x.rs.gn → (0 < (x.rs.r i).rl → (x.rs.r i).rb ≠ q) ∧ (x.rs.r i).T.Clear q
  b : 0 < x.bag.bn → x.bag.bb ≠ q
/-- Nothing of an engine lies in a block that holds an engine's head. -/
def EngM.Apart (x : EngM) (W : World) : Prop := ∀ q a l c a' l' c', Blk W q #[.slice a l c, .slice a' l' c'] 45 → x.Clear q

theorem Live.outF {base P N : Nat} {e : Eng} {Bv : Value} {y : Lay} {W : World} (h : Live base P N e Bv y W) (hN0 : 0 < N) (hN6 : N ≤ 6) (hb : e.bag.length ≤ 120) (hl : ∀ m ∈ e.bag, m.b.length ≤ 60) :
    ∃ m : EngM, m.cells = #[.slice (some ⟨y.G, 0, none⟩) N y.gc, Bv] ∧ m.In W.heap.size W ∧ m.eng = e ∧ m.rs.gn = N ∧ (∀ i, i < N → (m.rs.r i).rl = N) ∧ (∀ i, i < N → (m.rs.r i).T.t.len = N) ∧ (∀ i, i < N → ∀ q, q < N → (m.rs.r i).T.t.L q = if e.told i q = true then N else 0) ∧ m.bag.bn = e.bag.length ∧ m.From base ∧ m.Apart W := by
  obtain ⟨rs, hrs⟩ : ∃ rs : RtrsM, rs = ⟨some ⟨y.G, 0, none⟩, N, y.gc, y.G, 0, fun i => ⟨some ⟨y.rb i, 0, none⟩, N, y.rc i, y.rb i, 0, e.R i, ⟨some ⟨y.Tb i, 0, none⟩, y.Tb i, 0, y.Tc i, fun q => y.ta i q, fun q => y.tc i q, fun q => y.db i q, fun q => y.dn i q, ⟨N, fun q => if e.told i q = true then N else 0, e.D i⟩⟩⟩⟩ := ⟨_, rfl⟩
  have hrin : rs.In W.heap.size W := by
    subst hrs
    refine ⟨fun _ => rfl, fun _ => h.rtrs.lt, fun i hi => ?_, fun i hi => ?_, fun i hi => ?_, by show N ≤ _; unfold maxLen; omega⟩
    · show W.cell? ⟨y.G, 0 + i * 2, none⟩ = _
      rw [Nat.zero_add, h.rtrs.cell]; exact h.r0 i hi
    · show W.cell? ⟨y.G, 0 + i * 2 + 1, none⟩ = _
      rw [Nat.zero_add, h.rtrs.cell]; exact h.r1 i hi
    · have hi' : i < N := hi
      obtain ⟨h1, h2⟩ := h.routes i hi'
      refine ⟨⟨fun _ => rfl, fun j hj => by show W.cell? ⟨y.rb i, 0 + j, none⟩ = _; rw [Nat.zero_add]; exact h2 j hj, by show N ≤ _; unfold maxLen; omega⟩, fun _ => h1.lt, ?_⟩
      refine ⟨fun _ => rfl, fun _ => (h.tolds i hi').lt, fun r hr => ?_, fun r hr h0 => ?_, fun r hr c hc => ?_, by show N ≤ _; unfold maxLen; omega, fun r hr => ?_⟩
      · show W.cell? ⟨y.Tb i, 0 + r, none⟩ = _
        rw [Nat.zero_add, (h.tolds i hi').cell]; exact h.t0 i hi' r hr
      · have h0' : 0 < (if e.told i r = true then N else 0) := h0
        split at h0'
        · next ht => exact ⟨(h.rows i hi' r hr ht).1, (h.rows i hi' r hr ht).2.1.lt⟩
        · exact absurd h0' (Nat.lt_irrefl _)
      · have hc' : c < (if e.told i r = true then N else 0) := hc
        split at hc'
        · next ht => exact (h.rows i hi' r hr ht).2.2 c hc'
        · exact absurd hc' (Nat.not_lt_zero _)
      · show (if e.told i r = true then N else 0) ≤ _
        unfold maxLen; split <;> omega
  obtain ⟨bag, hbv, hbin, hbn, hM⟩ : ∃ bag : BagM, Bv = .slice bag.ba bag.bn bag.bc ∧ (bag.In W.heap.size W ∧ (0 < bag.bn → base ≤ bag.bb) ∧ (0 < bag.bn → Bv.ownBlock = some bag.bb)) ∧ bag.bn = e.bag.length ∧ bag.M = fun i => e.bag.getD i noMail := by
    by_cases h0 : 0 < e.bag.length
    · obtain ⟨g, cap, hBv, _⟩ := h.mail h0
      have hlt := (h.bag.lt g (by rw [hBv]; rfl)).2
      have hat : ∀ i, i < e.bag.length → W.cell? ⟨g, i * 3, none⟩ = some (.int .i64 (e.bag.getD i noMail).F) ∧ W.cell? ⟨g, i * 3 + 1, none⟩ = some (.int .i64 (e.bag.getD i noMail).T) ∧ W.cell? ⟨g, i * 3 + 2, none⟩ = some (.string ⟨(e.bag.getD i noMail).b.toArray⟩) := fun i hi => by
        obtain ⟨g', cap', hBv', q0, q1, q2⟩ := h.mail hi
        rw [hBv] at hBv'
        obtain ⟨rfl, rfl⟩ : g = g' ∧ cap = cap' := by simpa using hBv'
        exact ⟨q0, q1, q2⟩
      refine ⟨⟨some ⟨g, 0, none⟩, e.bag.length, cap, g, 0, fun i => e.bag.getD i noMail⟩, hBv, ⟨⟨fun _ => rfl, fun _ => hlt, fun i hi => ?_, fun i hi => ?_, fun i hi => ?_, by show e.bag.length ≤ _; unfold maxLen; omega, fun i hi => ?_⟩, fun _ => (h.bag.lt g (by rw [hBv]; rfl)).1, fun _ => by rw [hBv]; rfl⟩, rfl, rfl⟩
      · show W.cell? ⟨g, 0 + i * 3, none⟩ = _; rw [Nat.zero_add]; exact (hat i hi).1
      · show W.cell? ⟨g, 0 + i * 3 + 1, none⟩ = _; rw [Nat.zero_add]; exact (hat i hi).2.1
      · show W.cell? ⟨g, 0 + i * 3 + 2, none⟩ = _; rw [Nat.zero_add]; exact (hat i hi).2.2
      · have := hl _ (getD_mem (d := noMail) (show i < e.bag.length from hi))
        show (e.bag.getD i noMail).b.length ≤ _
        unfold maxLen; omega
    · have h00 : e.bag.length = 0 := by omega
      obtain ⟨a, c, hBv⟩ : ∃ a c, Bv = .slice a e.bag.length c := by
        rcases Go.Joins.ownsRow_forms h.bag with ⟨e0, e1⟩ | ⟨g, cap, e1⟩
        · exact ⟨none, 0, by rw [e0, e1]⟩
        · exact ⟨_, _, e1⟩
      exact ⟨⟨a, e.bag.length, c, 0, 0, fun i => e.bag.getD i noMail⟩, hBv, ⟨⟨fun h1 => absurd h1 h0, fun h1 => absurd h1 h0, fun i hi => absurd (Nat.lt_of_le_of_lt (Nat.zero_le _) hi) h0, fun i hi => absurd (Nat.lt_of_le_of_lt (Nat.zero_le _) hi) h0, fun i hi => absurd (Nat.lt_of_le_of_lt (Nat.zero_le _) hi) h0, by show e.bag.length ≤ _; unfold maxLen; omega, fun i hi => absurd (Nat.lt_of_le_of_lt (Nat.zero_le _) hi) h0⟩, fun h1 => absurd h1 h0, fun h1 => absurd h1 h0⟩, rfl, rfl⟩
  refine ⟨⟨rs, bag⟩, ?_, ⟨hrin, hbin.1⟩, ?_, by rw [hrs], fun i hi => by rw [hrs], fun i hi => by rw [hrs], fun i hi q hq => by rw [hrs], hbn, ⟨fun _ => by rw [hrs]; exact h.lg, fun i hi => ?_, hbin.2.1, own_cap (show W.ownsRow base 52 3 (.slice bag.ba bag.bn bag.bc) e.bag.length (mailsL e.bag) from hbv ▸ h.bag) hbn⟩, fun q a l c a' l' c' hq => ⟨fun _ => ?_, fun i hi => ?_, fun h0 => ?_⟩⟩
  · show #[Value.slice rs.ga rs.gn rs.gc, Value.slice bag.ba bag.bn bag.bc] = _
    rw [← hbv, hrs]
  · have hbag : (List.range bag.bn).map bag.M = e.bag := by rw [hbn, hM]; exact range_getD e.bag
    have htold : (fun i k => decide ((rs.r i).T.t.L k ≠ 0)) = e.told := by
      funext i k
      rw [hrs]
      show decide ((if e.told i k = true then N else 0) ≠ 0) = e.told i k
      cases ht : e.told i k with
      | true => simp; omega
      | false => simp
    show (⟨fun i => (rs.r i).R, fun i k => decide ((rs.r i).T.t.L k ≠ 0), fun i k => (rs.r i).T.t.Z k, (List.range bag.bn).map bag.M⟩ : Eng) = e
    rw [hbag, htold, hrs]
  · rw [hrs] at hi ⊢
    have hy := h.ylo.1
    refine ⟨fun _ => Nat.le_trans hy (h.routes i hi).1.lo, ⟨fun _ => h.lt i hi, fun q hq h0 => ?_⟩⟩
    have h0' : 0 < (if e.told i q = true then N else 0) := h0
    split at h0'
    · next ht => exact Nat.le_trans hy (h.rows i hi q hq ht).2.1.lo
    · exact absurd h0' (Nat.lt_irrefl _)
  · rw [hrs]; exact type_ne h.rtrs hq (by decide)
  · rw [hrs] at hi ⊢
    have hno : ∀ b o z, W.cell? ⟨b, o, none⟩ = some (.int .i64 z) → b ≠ q := fun b o z hc e1 => by
      subst e1
      rw [hq.cell o] at hc
      rcases o with _ | _ | o
      · simp at hc
      · simp at hc
      · simp at hc
    refine ⟨fun _ => hno _ _ _ ((h.routes i hi).2 0 hN0), ⟨fun _ => type_ne (h.tolds i hi) hq (by decide), fun r hr h0 => ?_⟩⟩
    have h0' : 0 < (if e.told i r = true then N else 0) := h0
    split at h0'
    · next ht => exact hno _ _ _ ((h.rows i hi r hr ht).2.2 0 hN0)
    · exact absurd h0' (Nat.lt_irrefl _)
  · exact own_ne h.bag hq (by decide) (hbin.2.2 h0)
theorem Live.out {base P N : Nat} {e : Eng} {Bv : Value} {y : Lay} {W : World} (h : Live base P N e Bv y W) (hN0 : 0 < N) (hN6 : N ≤ 6) (hb : e.bag.length ≤ 120) (hl : ∀ m ∈ e.bag, m.b.length ≤ 60) :
    ∃ m : EngM, m.cells = #[.slice (some ⟨y.G, 0, none⟩) N y.gc, Bv] ∧ m.In W.heap.size W ∧ m.eng = e ∧ m.rs.gn = N ∧ (∀ i, i < N → (m.rs.r i).rl = N) ∧ (∀ i, i < N → (m.rs.r i).T.t.len = N) ∧ (∀ i, i < N → ∀ q, q < N → (m.rs.r i).T.t.L q = if e.told i q = true then N else 0) ∧ m.bag.bn = e.bag.length := by
  obtain ⟨m, h1, h2, h3, h4, h5, h6, h7, h8, _, _⟩ := h.outF hN0 hN6 hb hl
  exact ⟨m, h1, h2, h3, h4, h5, h6, h7, h8⟩

end Go.Proofs.Ytjhkadffaephmab
