/-
  Our own texts, bundled: a claim holds few files.
-/
import Derived.Test.YtjhkadffaephmabBundleEI
import Derived.Test.YtjhkadffaephmabBundleBG
import Derived.Laws.EntriesVeiled
import Derived.Test.YtjhkadffaephmabBundleEJ
/-
  path.same; slices.EqualFunc at routes and at rows of routes.
-/
namespace Go.Proofs.Ytjhkadffaephmab
set_option maxRecDepth 100000
open Go.RowKit

theorem Rt.same_rt (a b : RtM) : a.rt.same b.rt = ((a.w == b.w) && sameInts a.l b.l a.f b.f) := by
  rw [Bool.eq_iff_iff, Rt.same_iff, Bool.and_eq_true, sameInts_lists, beq_iff_eq]
  constructor
  · intro e; exact ⟨congrArg Rt.w e, congrArg Rt.p e⟩
  · rintro ⟨e1, e2⟩
    show Rt.mk a.w (listOf a.l a.f) = Rt.mk b.w (listOf b.l b.f)
    rw [e1, e2]

theorem calls_pSame1 (args : Array Value) (W : World) : (callFunc 169 args).run Try.prog W = .ok (.enter 169 args) W := by rfl
theorem calls_pSame2 (args : Array Value) (W : World) : (callFunc 171 args).run Try.prog W = .ok (.enter 171 args) W := by rfl
theorem calls_pSame (args : Array Value) (W : World) : (callFunc 107 args).run Try.prog W = .ok (.enter 107 args) W := by rfl

set_option maxHeartbeats 1000000 in
theorem pSame1_any (a b : RtM) (w : World) (ha : a.In w.heap.size w) (hb : b.In w.heap.size w) :
    Calls Try.prog 169 #[a.val, b.val] w fun e w' => e = .returned (.bool (a.rt.same b.rt)) ∧ Below w.heap.size w w' := by
  obtain ⟨W1, hW1⟩ : ∃ W1, W1 = (w.alloc (.cells a.cells 71)).alloc (.cells b.cells 71) := ⟨_, rfl⟩
  have hB1 : Below w.heap.size w W1 := by rw [hW1]; exact ((Below.refl _ w).alloc (Nat.le_refl _) _).alloc (by simp) _
  have HS := hide (sEqual_any a.pa b.pa a.l b.l a.q b.q a.b a.o b.b b.o a.f b.f W1 (ha.below hB1 (Nat.le_refl _)).ints (hb.below hB1 (Nat.le_refl _)).ints)
  have Hsm := hide (Rt.same_rt a b)
  generalize a.rt.same b.rt = sm at *
  generalize sameInts a.l b.l a.f b.f = si at *
  have HB1 := hide hB1
  rw [hW1] at HS HB1
  simp only [RtM.val, RtM.cells] at HS HB1 ⊢
  clear hB1 hW1 ha hb
  by_cases hw : a.w = b.w
  · have hw' : (a.w == b.w) = true := by simp [hw]
    have Hr : Hid (sm = si) := hide (by rw [Hsm.out, hw', Bool.true_and])
    clear hw Hsm
    go_enter Try.func169, Try.ntmps169
    go_wp2_with fail
    go_at_call 157
    refine HS.out.mono ?_
    rintro e w2 ⟨rfl, z, rfl⟩
    have HB2 := hide (below_drewN HB1.out z)
    clear HS HB1
    go_wp2
    go_ret
    exact ⟨by rw [Hr.out]; rfl, HB2.out⟩
  · have hw' : (a.w == b.w) = false := by simp [hw]
    have Hr : Hid (sm = false) := hide (by rw [Hsm.out, hw', Bool.false_and])
    clear hw Hsm HS
    go_enter Try.func169, Try.ntmps169
    go_wp2
    go_ret
    exact ⟨by rw [Hr.out]; rfl, HB1.out⟩

/-- A row of routes where it lies. -/
structure RowM where
  a : Option Addr
  l : Nat
  q : Nat
  b : Nat
  o : Nat
  R : Nat → RtM
structure RowM.In (x : RowM) (k : Nat) (W : World) : Prop where
  addr : 0 < x.l → x.a = some ⟨x.b, x.o, none⟩ ∧ x.b < k
  wt : ∀ c, c < x.l → W.cell? ⟨x.b, x.o + c * 2, none⟩ = some (.int .i64 (x.R c).w)
  pt : ∀ c, c < x.l → W.cell? ⟨x.b, x.o + c * 2 + 1, none⟩ = some (.slice (x.R c).pa (x.R c).l (x.R c).q)
  rt : ∀ c, c < x.l → (x.R c).In k W
  len : x.l ≤ maxLen
theorem RowM.In.below {x : RowM} {k m : Nat} {W W' : World} (h : x.In k W) (hb : Below m W W') (hk : k ≤ m) : x.In k W' :=
  ⟨h.addr, fun c hc => by rw [hb.cell (p := ⟨x.b, x.o + c * 2, none⟩) (Nat.lt_of_lt_of_le (h.addr (by omega)).2 hk)]; exact h.wt c hc,
    fun c hc => by rw [hb.cell (p := ⟨x.b, x.o + c * 2 + 1, none⟩) (Nat.lt_of_lt_of_le (h.addr (by omega)).2 hk)]; exact h.pt c hc, fun c hc => (h.rt c hc).below hb hk, h.len⟩
theorem RowM.In.mono {x : RowM} {k m : Nat} {W : World} (h : x.In k W) (hk : k ≤ m) : x.In m W := ⟨fun h0 => ⟨(h.addr h0).1, Nat.lt_of_lt_of_le (h.addr h0).2 hk⟩, h.wt, h.pt, fun c hc => ⟨(h.rt c hc).ints, fun h0 => Nat.lt_of_lt_of_le ((h.rt c hc).blk h0) hk⟩, h.len⟩
theorem RowM.In.grown {x : RowM} {W W' : World} (h : x.In W.heap.size W) (hb : Below W.heap.size W W') : x.In W'.heap.size W' := (h.below hb (Nat.le_refl _)).mono hb.size
def RMat.rowM (m : RMat) (r : Nat) : RowM := ⟨m.A r, m.L r, m.C r, m.RB r, m.RO r, m.R r⟩
theorem RMat.In.rowM {m : RMat} {k : Nat} {W : World} (h : m.In k W) {r : Nat} (hr : r < m.len) : (m.rowM r).In k W := ⟨h.addr r hr, h.wt r hr, h.pt r hr, h.rt r hr, h.lens r hr⟩

set_option maxHeartbeats 2000000 in
theorem eqRoutes_any (x y : RowM) (w : World) (hx : x.In w.heap.size w) (hy : y.In w.heap.size w) :
    Calls Try.prog 172 #[.slice x.a x.l x.q, .slice y.a y.l y.q, .func (.func 169) #[] #[]] w fun e w' => e = .returned (.bool (rowSame x.l y.l (fun c => (x.R c).rt) (fun c => (y.R c).rt))) ∧ Below w.heap.size w w' := by
  have hl1 := hx.len
  have hl2 := hy.len
  unfold maxLen at hl1 hl2
  have hcf := calls_pSame1
  have HX := hide hx
  have HY := hide hy
  clear hx hy
  by_cases hl : x.l = y.l
  · have Hl := hide hl
    have hne : ((x.l : Int) != (y.l : Int)) = false := by simp [hl]
    clear hl
    go_enter Try.func172, Try.ntmps172
    go_wp2
    go_loopw [7, 8, 9, 17] (fun _ _ _ i wr => ∃ k : Nat, k ≤ x.l ∧ i = .int .i64 k ∧ Hid (∀ r, r < k → (x.R r).rt = (y.R r).rt) ∧ Hid (Below w.heap.size w wr)) (fun _ _ _ i _ => x.l - (intOf i).toNat)
    case atStart => exact ⟨0, Nat.zero_le _, rfl, hide (fun r hr => absurd hr (Nat.not_lt_zero _)), hide (Below.refl _ _)⟩
    case round =>
      obtain ⟨k, hk, rfl, Hall, HD⟩ := hrel
      by_cases hlt : k < x.l
      · have hlt2 : k < y.l := by have := Hl.out; omega
        have hIx := HX.out.below HD.out (Nat.le_refl _)
        have ha1 := (hIx.addr (by omega)).1
        have ha2 := (HY.out.addr (by omega)).1
        have hki : (k : Int) < (x.l : Int) := by omega
        have hki2 : (k : Int) < (y.l : Int) := by omega
        have c0 := hIx.wt k hlt
        have c1 := hIx.pt k hlt
        have hB1 : Below w.heap.size w (wr.alloc (.cells (x.R k).cells 71)) := HD.out.alloc HD.out.size _
        have hIy := HY.out.below hB1 (Nat.le_refl _)
        have d0 := hIy.wt k hlt2
        have d1 := hIy.pt k hlt2
        have hB2 : Below w.heap.size w ((wr.alloc (.cells (x.R k).cells 71)).alloc (.cells (y.R k).cells 71)) := hB1.alloc hB1.size _
        have bx : Blk ((wr.alloc (.cells (x.R k).cells 71)).alloc (.cells (y.R k).cells 71)) wr.heap.size (x.R k).cells 71 := (Blk.new wr _ _).alloc _
        have by_ : Blk ((wr.alloc (.cells (x.R k).cells 71)).alloc (.cells (y.R k).cells 71)) (wr.heap.size + 1) (y.R k).cells 71 := Blk.new' (by simp)
        have p0 := bx.cell 0
        have p1 := bx.cell 1
        have q0 := by_.cell 0
        have q1 := by_.cell 1
        simp [RtM.cells] at p0 p1 q0 q1
        have HS := hide (pSame1_any (x.R k) (y.R k) _ ((HX.out.grown hB2).rt k hlt) ((HY.out.grown hB2).rt k hlt2))
        have HB2 := hide hB2
        simp only [RtM.val, RtM.cells] at HS HB2 p0 p1 q0 q1 d0 d1
        have Hsi := hide (Rt.same_iff (a := (x.R k).rt) (b := (y.R k).rt))
        have Hwf : Hid ((x.R k).rt.same (y.R k).rt = false → rowSame x.l y.l (fun c => (x.R c).rt) (fun c => (y.R c).rt) = false) := hide (fun e => rowSame_false hlt e)
        rw [ha1, ha2]
        generalize hsm : (x.R k).rt.same (y.R k).rt = sm at *
        clear hIx hIy hB1 hB2 bx by_
        cases sm with
        | true =>
          have Hn : Hid (∀ r, r < k + 1 → (x.R r).rt = (y.R r).rt) := hide (fun r hr => by
            by_cases e : r = k
            · subst e; exact Rt.same_iff.1 hsm
            · exact Hall.out r (by omega))
          clear hsm Hsi Hwf
          go_wp2_with fail
          refine HS.out.mono ?_
          rintro e w' ⟨rfl, hb⟩
          have HBn := hide (HB2.out.trans (hb.mono HB2.out.size))
          clear hb HS p0 p1 q0 q1 d0 d1 c0 c1
          go_wp2
          go_roundw
          case rel =>
            first
            | exact ⟨k + 1, by omega, by go_num, Hn, HBn⟩
            | ((try rw [← ha1]); (try rw [← ha2]); (repeat apply Exists.intro); refine ⟨?_, rfl⟩; exact ⟨k + 1, by omega, by go_num, Hn, HBn⟩)
          case measure => simp [intOf]; omega
        | false =>
          have Hw := hide (Hwf.out (by trivial))
          clear hsm Hsi Hwf
          go_wp2_with fail
          refine HS.out.mono ?_
          rintro e w' ⟨rfl, hb⟩
          have HBn := hide (HB2.out.trans (hb.mono HB2.out.size))
          clear hb HS p0 p1 q0 q1 d0 d1 c0 c1
          go_wp2
          go_ret
          exact ⟨by rw [Hw.out]; rfl, HBn.out⟩
      · have hki : (x.l : Int) ≤ (k : Int) := by omega
        have Hw : Hid (rowSame x.l y.l (fun c => (x.R c).rt) (fun c => (y.R c).rt) = true) := hide (rowSame_iff.2 ⟨Hl.out, fun i hi => Hall.out i (by omega)⟩)
        go_wp2
        go_ret
        exact ⟨by rw [Hw.out]; rfl, HD.out⟩
  · have hne : ((x.l : Int) != (y.l : Int)) = true := by simp; omega
    have Hw : Hid (rowSame x.l y.l (fun c => (x.R c).rt) (fun c => (y.R c).rt) = false) := hide (by simp [rowSame, hl])
    clear hl
    go_enter Try.func172, Try.ntmps172
    go_wp2
    go_ret
    exact ⟨by rw [Hw.out]; rfl, Below.refl _ _⟩

set_option maxHeartbeats 1000000 in
theorem pSame2_any (x y : RowM) (bf : Nat) (w : World) (hx : x.In w.heap.size w) (hy : y.In w.heap.size w) (hb : w.cell? ⟨bf, 0, none⟩ = some (.func (.func 169) #[] #[])) :
    Calls Try.prog 171 #[.slice x.a x.l x.q, .slice y.a y.l y.q, .pointer (some ⟨bf, 0, none⟩)] w fun e w' => e = .returned (.bool (rowSame x.l y.l (fun c => (x.R c).rt) (fun c => (y.R c).rt))) ∧ Below w.heap.size w w' := by
  have HC := hide (eqRoutes_any x y w hx hy)
  generalize rowSame x.l y.l (fun c => (x.R c).rt) (fun c => (y.R c).rt) = rs at *
  clear hx hy
  go_enter Try.func171, Try.ntmps171
  go_wp2_with fail
  go_at_call 172
  refine HC.out.mono ?_
  rintro e w1 ⟨rfl, hb1⟩
  have HB := hide hb1
  clear hb1 HC
  go_wp2
  go_ret
  exact ⟨rfl, HB.out⟩

set_option maxHeartbeats 2000000 in
theorem eqRows_any (x y : RMat) (bf : Nat) (w : World) (hx : x.In w.heap.size w) (hy : y.In w.heap.size w) (hbf : Blk w bf #[.func (.func 169) #[] #[]] 149) :
    Calls Try.prog 170 #[x.val, y.val, .func (.func 171) #[] #[.pointer (some ⟨bf, 0, none⟩)]] w fun e w' => e = .returned (.bool (x.t.same y.t)) ∧ Below w.heap.size w w' := by
  have hl1 := hx.tall
  have hl2 := hy.tall
  unfold maxLen at hl1 hl2
  have hcf := calls_pSame2
  have HX := hide hx
  have HY := hide hy
  have HS0 := hide (fun (k : Nat) (h1 : k < x.len) (h2 : k < y.len) W (hb : Below w.heap.size w W) => pSame2_any (x.rowM k) (y.rowM k) bf W ((hx.grown hb).rowM h1) ((hy.grown hb).rowM h2) ((hbf.below hb hbf.lt).cell 0))
  simp only [RMat.val]
  clear hx hy hbf
  by_cases hl : x.len = y.len
  · have Hl := hide hl
    have hne : ((x.len : Int) != (y.len : Int)) = false := by simp [hl]
    clear hl
    go_enter Try.func170, Try.ntmps170
    go_wp2
    go_loopw [7, 8, 9, 17] (fun _ _ _ i wr => ∃ k : Nat, k ≤ x.len ∧ i = .int .i64 k ∧ Hid (∀ r, r < k → rowSame (x.L r) (y.L r) (fun c => (x.R r c).rt) (fun c => (y.R r c).rt) = true) ∧ Hid (Below w.heap.size w wr)) (fun _ _ _ i _ => x.len - (intOf i).toNat)
    case atStart => exact ⟨0, Nat.zero_le _, rfl, hide (fun r hr => absurd hr (Nat.not_lt_zero _)), hide (Below.refl _ _)⟩
    case round =>
      obtain ⟨k, hk, rfl, Hall, HD⟩ := hrel
      by_cases hlt : k < x.len
      · have hlt2 : k < y.len := by have := Hl.out; omega
        have ha1 := HX.out.ga (by omega)
        have ha2 := HY.out.ga (by omega)
        have hc1 := (HX.out.below HD.out (Nat.le_refl _)).row k hlt
        have hc2 := (HY.out.below HD.out (Nat.le_refl _)).row k hlt2
        have hki : (k : Int) < (x.len : Int) := by omega
        have hki2 : (k : Int) < (y.len : Int) := by omega
        have hS := hide (HS0.out k hlt hlt2 wr HD.out)
        simp only [RMat.rowM] at hS
        have Hwf : Hid (rowSame (x.L k) (y.L k) (fun c => (x.R k c).rt) (fun c => (y.R k c).rt) = false → x.t.same y.t = false) := hide (fun e => RTab.same_false (s := x.t) (t := y.t) hlt e)
        generalize hs : rowSame (x.L k) (y.L k) (fun c => (x.R k c).rt) (fun c => (y.R k c).rt) = rs at *
        cases rs with
        | true =>
          have Hn : Hid (∀ r, r < k + 1 → rowSame (x.L r) (y.L r) (fun c => (x.R r c).rt) (fun c => (y.R r c).rt) = true) := hide (fun r hr => by
            by_cases e : r = k
            · subst e; exact hs
            · exact Hall.out r (by omega))
          clear hs Hwf
          go_wp2_with fail
          refine hS.out.mono ?_
          rintro e w' ⟨rfl, hb⟩
          have HBn := hide (HD.out.trans (hb.mono HD.out.size))
          clear hb hS hc1 hc2
          go_wp2
          go_roundw
          case rel =>
            first
            | exact ⟨k + 1, by omega, by go_num, Hn, HBn⟩
            | ((try rw [← ha1]); (try rw [← ha2]); (repeat apply Exists.intro); refine ⟨?_, rfl⟩; exact ⟨k + 1, by omega, by go_num, Hn, HBn⟩)
          case measure => simp [intOf]; omega
        | false =>
          have Hw := hide (Hwf.out (by trivial))
          clear hs Hwf
          go_wp2_with fail
          refine hS.out.mono ?_
          rintro e w' ⟨rfl, hb⟩
          have HBn := hide (HD.out.trans (hb.mono HD.out.size))
          clear hb hS hc1 hc2
          go_wp2
          go_ret
          exact ⟨by rw [Hw.out]; rfl, HBn.out⟩
      · have hki : (x.len : Int) ≤ (k : Int) := by omega
        have Hw : Hid (x.t.same y.t = true) := hide (RTab.same_true (s := x.t) (t := y.t) Hl.out (fun i hi => Hall.out i (by have : i < x.len := hi; omega)))
        go_wp2
        go_ret
        exact ⟨by rw [Hw.out]; rfl, HD.out⟩
  · have hne : ((x.len : Int) != (y.len : Int)) = true := by simp; omega
    have Hw : Hid (x.t.same y.t = false) := hide (by
      cases e : x.t.same y.t with
      | false => rfl
      | true => exact absurd (RTab.same_iff.1 e).1 hl)
    clear hl
    go_enter Try.func170, Try.ntmps170
    go_wp2
    go_ret
    exact ⟨by rw [Hw.out]; rfl, Below.refl _ _⟩

set_option maxHeartbeats 1000000 in
theorem pSame_any (x y : RMat) (w : World) (hx : x.In w.heap.size w) (hy : y.In w.heap.size w) :
    Calls Try.prog 107 #[x.val, y.val] w fun e w' => e = .returned (.bool (x.t.same y.t)) ∧ Below w.heap.size w w' := by
  have hB1 : Below w.heap.size w (w.alloc (.cells #[.func (.func 169) #[] #[]] 149)) := (Below.refl _ w).alloc (Nat.le_refl _) _
  have HC := hide (eqRows_any x y w.heap.size _ (hx.grown hB1) (hy.grown hB1) (Blk.new w _ _))
  have HB1 := hide hB1
  generalize x.t.same y.t = rs at *
  simp only [RMat.val] at HC ⊢
  clear hx hy hB1
  go_enter Try.func107, Try.ntmps107
  go_wp2_with fail
  go_at_call 170
  refine HC.out.mono ?_
  rintro e w1 ⟨rfl, hb1⟩
  have HB := hide (HB1.out.trans (hb1.mono HB1.out.size))
  clear hb1 HC
  go_wp2
  go_ret
  exact ⟨rfl, HB.out⟩

end Go.Proofs.Ytjhkadffaephmab

/-
  state.Settle at routes.
-/
namespace Go.Proofs.Ytjhkadffaephmab
set_option maxRecDepth 100000
open Go.RowKit

/-- So many rounds were made: what is left to do comes to the same. -/
def Net.PLeft (n : Net) (M : Nat) (X : Nat → Nat → Rt) (k : Nat) (Y : Nat → Nat → Rt) : Prop := n.psettle M X = ((n.psettle (M - k) Y).1, (n.psettle (M - k) Y).2 + k)
theorem Net.PLeft.next {n : Net} {M k : Nat} {X Y : Nat → Nat → Rt} (h : n.PLeft M X k Y) (hk : k < M) (hs : n.psame Y (n.pround Y) = false) : n.PLeft M X (k + 1) (n.pround Y) := by
  unfold Net.PLeft at *
  rw [show M - k = (M - (k + 1)) + 1 by omega, Net.psettle, if_neg (by simp [hs])] at h
  rw [h]
  simp only [Prod.mk.injEq, true_and]
  omega
theorem Net.PLeft.stop {n : Net} {M k : Nat} {X Y : Nat → Nat → Rt} (h : n.PLeft M X k Y) (hs : k = M ∨ n.psame Y (n.pround Y) = true) : n.psettle M X = (Y, k) := by
  unfold Net.PLeft at h
  rw [h]
  rcases hs with e | e
  · rw [show M - k = 0 by omega, Net.psettle]
    simp
  · cases M - k with
    | zero => rw [Net.psettle]; simp
    | succ q => rw [Net.psettle, if_pos e]; simp

set_option maxHeartbeats 4000000 in
theorem settleRt_any (f1 f2 : Nat) (cap1 cap2 : Array Value) (n : Net) (g : n.Good) (M : Nat) (m0 : RMat) (X : Nat → Nat → Rt) (w : World) (hm0 : FreshR n.N X m0 w) (hX : n.PState X) (hM : M ≤ 1000)
    (hcf1 : ∀ (args : Array Value) (W : World), (callFunc f1 args).run Try.prog W = .ok (.enter f1 args) W)
    (hcf2 : ∀ (args : Array Value) (W : World), (callFunc f2 args).run Try.prog W = .ok (.enter f2 args) W)
    (hr : ∀ (m : RMat) (Y : Nat → Nat → Rt) (W : World), Below w.heap.size w W → FreshR n.N Y m W → n.PState Y → Calls Try.prog f1 (#[m.val] ++ cap1) W fun e w' => (∃ m2 : RMat, e = .returned m2.val ∧ FreshR n.N (n.pround Y) m2 w') ∧ Below W.heap.size W w')
    (hsm : ∀ (m m2 : RMat) (W : World), m.In W.heap.size W → m2.In W.heap.size W → Calls Try.prog f2 (#[m.val, m2.val] ++ cap2) W fun e w' => e = .returned (.bool (m.t.same m2.t)) ∧ Below W.heap.size W w') :
    Calls Try.prog 105 #[m0.val, .int .i64 M, .func (.func f1) #[] cap1, .func (.func f2) #[] cap2] w fun e w' => (∃ m : RMat, e = .returned (.tuple #[m.val, .int .i64 ((n.psettle M X).2 : Nat)]) ∧ FreshR n.N (n.psettle M X).1 m w') ∧ Below w.heap.size w w' := by
  have HRd := hide hr
  have HSm0 := hide hsm
  have HSt := hide (fun (Y : Nat → Nat → Rt) (hs : n.PState Y) => hs.round g)
  have HX := hide hX
  have HM0 := hide hm0
  simp only [RMat.val] at HRd HSm0 ⊢
  clear hr hsm hX hm0 g
  go_enter Try.func105, Try.ntmps105
  go_wp2_with fail
  go_loopw [0, 10, 11, 13] (fun s c _ q wr => ∃ (k : Nat) (m : RMat) (Y : Nat → Nat → Rt), k ≤ M ∧ q = .int .i64 k ∧ c = .int .i64 k ∧ s = .slice m.ga m.len m.cap ∧ Hid (FreshR n.N Y m wr) ∧ Hid (n.PState Y) ∧ Hid (n.PLeft M X k Y) ∧ Hid (Below w.heap.size w wr)) (fun _ _ _ q _ => M - (intOf q).toNat)
  case atStart => exact ⟨0, m0, X, Nat.zero_le _, rfl, rfl, rfl, HM0, HX, hide rfl, hide (Below.refl _ _)⟩
  case round =>
    obtain ⟨k, m, Y, hk, rfl, rfl, rfl, HM, HY, HL, HB⟩ := hrel
    by_cases hlt : k < M
    · have hki : (k : Int) < (M : Int) := by omega
      have HR1 := hide (HRd.out m Y wr HB.out HM.out HY.out)
      go_wp2_with fail
      refine HR1.out.mono ?_
      rintro e w3 ⟨⟨m2, rfl, hm2⟩, hb3⟩
      have HM2 := hide hm2
      have HM1 := hide (HM.out.grown hb3)
      have Hsm : Hid (m.t.same m2.t = n.psame Y (n.pround Y)) := hide (HM.out.psame hm2)
      have HB3 := hide (HB.out.trans (hb3.mono HB.out.size))
      have HSm := hide (HSm0.out m m2 w3 HM1.out.mem HM2.out.mem)
      clear hm2 hb3 HR1 HB
      go_wp2_with fail
      refine HSm.out.mono ?_
      rintro e w4 ⟨rfl, hb4⟩
      have HB4 := hide (HB3.out.trans (hb4.mono HB3.out.size))
      cases hs : n.psame Y (n.pround Y) with
      | true =>
        have hs2 : m.t.same m2.t = true := Hsm.out.trans hs
        have Hst := hide (HL.out.stop (Or.inr hs))
        have HM4 := hide (HM1.out.grown hb4)
        rw [hs2]
        clear hs hs2 Hsm HL HSm hb4
        go_wp2
        have e2 : (n.psettle M X).2 = k := by rw [Hst.out]
        have e3 : (n.psettle M X).1 = Y := by rw [Hst.out]
        refine bodyPost_ret (v := .tuple #[.slice m.ga m.len m.cap, .int .i64 k]) (by simp [results, Try.results105, go_sem]) rfl ⟨⟨m, by rw [e2], ?_⟩, HB4.out⟩
        rw [e3]
        exact HM4.out
      | false =>
        have hs2 : m.t.same m2.t = false := Hsm.out.trans hs
        have HLn := hide (HL.out.next hlt hs)
        have HYn := hide (HSt.out Y HY.out)
        have HM3 : Hid (FreshR n.N (n.pround Y) m2 w4) := hide (HM2.out.grown hb4)
        rw [hs2]
        clear hs hs2 Hsm HL HSm HM HM1 HM2 HB3 hb4
        go_wp2
        go_roundw
        case rel =>
          first
          | exact ⟨k + 1, m2, _, by omega, by go_num, by go_num, rfl, HM3, HYn, HLn, HB4⟩
          | ((repeat apply Exists.intro); refine ⟨?_, rfl⟩; exact ⟨k + 1, m2, _, by omega, by go_num, by go_num, rfl, HM3, HYn, HLn, HB4⟩)
        case measure => simp [intOf]; omega
    · have hkM : k = M := by omega
      have Hst := hide (HL.out.stop (Or.inl hkM))
      have hki : (M : Int) ≤ (k : Int) := by omega
      clear HL
      go_wp2
      have e2 : (n.psettle M X).2 = k := by rw [Hst.out]
      have e3 : (n.psettle M X).1 = Y := by rw [Hst.out]
      refine bodyPost_ret (v := .tuple #[.slice m.ga m.len m.cap, .int .i64 k]) (by simp [results, Try.results105, go_sem]) rfl ⟨⟨m, by rw [e2], ?_⟩, HB.out⟩
      rw [e3]
      exact HM.out

end Go.Proofs.Ytjhkadffaephmab

/-
  path.Round, path.Settle.
-/
namespace Go.Proofs.Ytjhkadffaephmab
set_option maxRecDepth 100000
open Go.RowKit

/-- No routes. -/
def nilR : RMat := ⟨none, 0, 0, 0, fun _ => none, fun _ => 0, fun _ => 0, fun _ => 0, 0, fun _ => 0, fun _ _ => zeroR⟩
theorem nilR_in (k : Nat) (W : World) : nilR.In k W :=
  ⟨fun h => absurd h (Nat.not_lt_zero _), fun h => absurd h (Nat.not_lt_zero _), fun _ h => absurd h (Nat.not_lt_zero _), fun _ h => absurd h (Nat.not_lt_zero _), fun _ h => absurd h (Nat.not_lt_zero _), fun _ h => absurd h (Nat.not_lt_zero _), fun _ h => absurd h (Nat.not_lt_zero _), Nat.zero_le _, fun _ h => absurd h (Nat.not_lt_zero _)⟩
/-- An answer of routes beside an errno. -/
structure RtAns (N : Nat) (Z : Nat → Nat → Rt) (E : Int) (m : RMat) (W : World) : Prop where
  mem : m.In W.heap.size W
  ok : E = 0 → FreshR N Z m W
  bad : E ≠ 0 → m.len = 0
theorem RtAns.grown {N : Nat} {Z : Nat → Nat → Rt} {E : Int} {m : RMat} {W W' : World} (h : RtAns N Z E m W) (hb : Below W.heap.size W W') : RtAns N Z E m W' := ⟨h.mem.grown hb, fun e => (h.ok e).grown hb, h.bad⟩

set_option maxHeartbeats 1000000 in
theorem pathRound_any (n : NetM) (x : RMat) (w : World) (h : n.In w.heap.size w) (hx : x.In w.heap.size w) :
    Calls Try.prog 41 #[n.val, x.val] w fun e w' => (∃ m : RMat, e = .returned (.tuple #[m.val, .int .i64 (n.net.pfit x.t)]) ∧ RtAns n.net.N (n.net.pround x.t.Z) (n.net.pfit x.t) m w') ∧ Below w.heap.size w w' := by
  have hB0 : Below w.heap.size w (w.alloc (.cells n.cells 41)) := (Below.refl _ w).alloc (Nat.le_refl _) _
  have b0 := Blk.new w n.cells 41
  have HF := hide (pathFit_any n x _ (h.grown hB0) (hx.grown hB0))
  have HR := hide (fun (hf : n.net.pfit x.t = 0) W (hb : Below w.heap.size w W) => roundP_any n x W (h.grown hb) (hx.grown hb) (Net.pis_of_fit hf).1 (Net.pis_of_fit hf).2)
  generalize n.net.pfit x.t = ft at *
  clear h hx
  simp only [NetM.val, NetM.cells, Mat.val, RMat.val] at HF HR hB0 b0 ⊢
  by_cases hf : ft = 0
  · subst hf
    go_enter Try.func41, Try.ntmps41
    go_wp2_with fail
    go_at_call 46
    refine HF.out.mono ?_
    rintro e w1 ⟨rfl, hb1⟩
    have hB1 := hB0.trans (hb1.mono hB0.size)
    have b1 := b0.below hb1 b0.lt
    have x0 := b1.cell 0
    have x1 := b1.cell 1
    have x2 := b1.cell 2
    have x3 := b1.cell 3
    have x4 := b1.cell 4
    simp at x0 x1 x2 x3 x4
    have HR1 := hide (HR.out (by trivial) w1 hB1)
    have HB1 := hide hB1
    clear HR HF hb1 hB0 hB1 b1 b0
    go_wp2_with fail
    go_at_call 102
    refine HR1.out.mono ?_
    rintro e w2 ⟨⟨m, rfl, hm⟩, hb2⟩
    have HM : Hid (RtAns n.net.N (n.net.pround x.t.Z) 0 m w2) := hide ⟨hm.mem, fun _ => hm, fun h => absurd rfl h⟩
    have HB := hide (HB1.out.trans (hb2.mono HB1.out.size))
    clear hm hb2 HR1 HB1 x0 x1 x2 x3 x4
    go_wp2
    exact bodyPost_ret (v := .tuple #[.slice m.ga m.len m.cap, .int .i64 0]) (by simp [results, Try.results41, go_sem]) rfl ⟨⟨m, rfl, HM.out⟩, HB.out⟩
  · have hf' : (ft != 0) = true := by simp [hf]
    have HM : Hid (∀ W, RtAns n.net.N (n.net.pround x.t.Z) ft nilR W) := hide (fun W => ⟨nilR_in _ _, fun e => absurd e hf, fun _ => rfl⟩)
    clear hf HR b0
    go_enter Try.func41, Try.ntmps41
    go_wp2_with fail
    go_at_call 46
    refine HF.out.mono ?_
    rintro e w1 ⟨rfl, hb1⟩
    have HB := hide (hB0.trans (hb1.mono hB0.size))
    clear HF hb1 hB0
    go_wp2
    exact bodyPost_ret (v := .tuple #[.slice none 0 0, .int .i64 ft]) (by simp [results, Try.results41, go_sem]) rfl ⟨⟨nilR, rfl, HM.out _⟩, HB.out⟩

theorem calls_pSettle1 (args : Array Value) (W : World) : (callFunc 104 args).run Try.prog W = .ok (.enter 104 args) W := by rfl
theorem calls_pSettle2 (args : Array Value) (W : World) : (callFunc 106 args).run Try.prog W = .ok (.enter 106 args) W := by rfl

set_option maxHeartbeats 1000000 in
theorem pSettle1_any (x : RMat) (bx i j : Nat) (w : World) (h : x.In w.heap.size w) (hbx : Blk w bx #[x.val] 83) (hi : i < x.len) (hj : j < x.L i) (hl : (x.R i j).l ≤ 100) :
    Calls Try.prog 104 #[.int .i64 i, .int .i64 j, .pointer (some ⟨bx, 0, none⟩)] w fun e w' => (∃ r : RtM, e = .returned r.val ∧ r.Made w.heap.size (x.R i j).rt w') ∧ Below w.heap.size w w' := by
  obtain ⟨W1, hW1⟩ : ∃ W1, W1 = w.alloc (.cells #[.int .i64 0, .slice none 0 0] 71) := ⟨_, rfl⟩
  have hB1 : Below w.heap.size w W1 := by rw [hW1]; exact (Below.refl _ w).alloc (Nat.le_refl _) _
  have br : Blk W1 w.heap.size #[.int .i64 0, .slice none 0 0] 71 := by rw [hW1]; exact Blk.new w _ _
  have HC := hide (copied_any (x.R i j) W1 ((h.grown hB1).rt i hi j hj) hl)
  obtain ⟨a0, a1, a2, a3⟩ := (h.below hB1 (Nat.le_refl _)).at hi hj
  have y0 := (hbx.below hB1 hbx.lt).cell 0
  simp [RMat.val] at y0
  rw [a0] at y0
  have hii : (i : Int) < (x.len : Int) := by omega
  have hji : (j : Int) < (x.L i : Int) := by omega
  have HB1 := hide hB1
  have Hbr := hide br
  have HW1 := hide hW1
  rw [hW1] at HC y0 a1 a2 a3
  simp only [RtM.val, RtM.cells] at HC
  clear h hbx hB1 br hW1 a0
  go_enter Try.func104, Try.ntmps104
  go_wp2_with fail
  go_at_call 92
  refine HC.out.mono ?_
  rw [← HW1.out]
  rintro e w2 ⟨⟨r, rfl, hm⟩, hb2⟩
  have b2 := Hbr.out.below hb2 Hbr.out.lt
  have o0 := b2.cell 0
  have o1 := b2.cell 1
  have f0 := b2.frozen 0
  have f1 := b2.frozen 1
  have b3 := b2.set2 (.int .i64 r.w) (.slice r.pa r.l r.q)
  have e0 := b3.cell 0
  have e1 := b3.cell 1
  simp at o0 o1 e0 e1
  have hBw := HB1.out.trans (hb2.mono HB1.out.size)
  have HBz := hide ((hBw.setCell (p := ⟨w.heap.size, 0, none⟩) (Nat.le_refl _) (.int .i64 r.w)).setCell (p := ⟨w.heap.size, 1, none⟩) (Nat.le_refl _) (.slice r.pa r.l r.q))
  have HMz := hide (((hm.put Hbr.out.lt 0 (.int .i64 r.w)).put Hbr.out.lt 1 (.slice r.pa r.l r.q)).lower HB1.out.size)
  clear b2 b3 hBw hb2 hm HC HW1 y0 a1 a2 a3
  go_wp2
  exact bodyPost_ret (v := .agg #[.int .i64 r.w, .slice r.pa r.l r.q]) (by simp [results, Try.results104, go_sem, e0, e1]) rfl ⟨⟨r, rfl, HMz.out⟩, HBz.out⟩

set_option maxHeartbeats 1000000 in
theorem pSettle2_any (n : NetM) (x : RMat) (bn : Nat) (w : World) (h : n.In w.heap.size w) (hx : x.In w.heap.size w) (hck : n.net.check = 0) (his : n.net.PIs x.t) (hb : Blk w bn n.cells 41) :
    Calls Try.prog 106 #[x.val, .pointer (some ⟨bn, 0, none⟩)] w fun e w' => (∃ m : RMat, e = .returned m.val ∧ FreshR n.net.N (n.net.pround x.t.Z) m w') ∧ Below w.heap.size w w' := by
  have HO := hide (roundP_any n x w h hx hck his)
  have x0 := hb.cell 0
  have x1 := hb.cell 1
  have x2 := hb.cell 2
  have x3 := hb.cell 3
  have x4 := hb.cell 4
  simp [NetM.cells, Mat.val] at x0 x1 x2 x3 x4
  simp only [NetM.val, NetM.cells, Mat.val, RMat.val] at HO ⊢
  clear hb h hx hck his
  go_enter Try.func106, Try.ntmps106
  go_wp2_with fail
  go_at_call 102
  refine HO.out.mono ?_
  rintro e w1 ⟨⟨m, rfl, hm⟩, hb1⟩
  have HB := hide hb1
  have HM := hide hm
  clear hb1 hm HO
  go_wp2
  go_ret
  exact ⟨⟨m, rfl, HM.out⟩, HB.out⟩

/-- What Settle answers besides: an error. -/
def Net.psettleE (n : Net) (t : RTab) (most : Int) : Int := if n.pfit t ≠ 0 then n.pfit t else if most < 0 ∨ 1000 < most then 3 else 0
theorem Net.psettleE_zero {n : Net} {t : RTab} {most : Int} (h : n.psettleE t most = 0) : n.pfit t = 0 ∧ 0 ≤ most ∧ most ≤ 1000 := by
  unfold Net.psettleE at h
  split at h
  · next h1 => exact absurd h h1
  · next h1 =>
    split at h
    · cases h
    · next h2 => exact ⟨by simpa using h1, by omega, by omega⟩

set_option maxHeartbeats 4000000 in
theorem pathSettle_ok (n : NetM) (x : RMat) (M : Nat) (w : World) (h : n.In w.heap.size w) (hx : x.In w.heap.size w) (hf : n.net.pfit x.t = 0) (hM : M ≤ 1000) :
    Calls Try.prog 42 #[n.val, x.val, .int .i64 M] w fun e w' => (∃ m : RMat, e = .returned (.tuple #[m.val, .int .i64 ((n.net.psettle M x.t.Z).2 : Nat), .int .i64 0]) ∧ FreshR n.net.N (n.net.psettle M x.t.Z).1 m w') ∧ Below w.heap.size w w' := by
  obtain ⟨hc, hi⟩ := Net.pis_of_fit hf
  have g := Net.good_of_check hc
  have lo := g.lo
  have hi6 := g.hi
  obtain ⟨N, hN⟩ : ∃ N : Nat, n.nodes = N := ⟨n.nodes.toNat, by have : n.net.nodes = n.nodes := rfl; omega⟩
  have hNN : n.net.N = N := by show n.nodes.toNat = N; omega
  have hN6 : N ≤ 6 := by have : n.net.nodes = n.nodes := rfl; omega
  have hN1 : 1 ≤ N := by have : n.net.nodes = n.nodes := rfl; omega
  obtain ⟨W0, hW0⟩ : ∃ W0, W0 = (w.alloc (.cells n.cells 41)).alloc (.cells #[x.val] 83) := ⟨_, rfl⟩
  have hB0 : Below w.heap.size w W0 := by rw [hW0]; exact ((Below.refl _ w).alloc (Nat.le_refl _) _).alloc (by simp) _
  have b0 : Blk W0 w.heap.size n.cells 41 := by rw [hW0]; exact (Blk.new w _ _).alloc _
  have b1 : Blk W0 (w.heap.size + 1) #[x.val] 83 := by rw [hW0]; exact Blk.new' (by simp)
  have HF := hide (pathFit_any n x W0 (h.grown hB0) (hx.grown hB0))
  rw [hf] at HF
  have HFl := hide (fun W (hb : Below w.heap.size w W) (bx : Blk W (w.heap.size + 1) #[x.val] 83) => filledR_any 104 #[.pointer (some ⟨w.heap.size + 1, 0, none⟩)] N x.t.Z W hN1 hN6 calls_pSettle1 (fun i j W' hi' hj' hb' =>
    pSettle1_any x (w.heap.size + 1) i j W' ((hx.grown hb).grown hb') (bx.below hb' bx.lt) (by have : x.len = n.net.N := hi.len; omega) (by have : x.L i = n.net.N := hi.wide i (by omega); omega) (by have := Net.Right.short g (hi.state i j (by omega) (by omega)).right (r := x.R i j); omega)))
  have HSt := hide (fun (m0 : RMat) (W : World) (hb : Below w.heap.size w W) (b : Blk W w.heap.size n.cells 41) (hm0 : FreshR n.net.N x.t.Z m0 W) =>
    settleRt_any 106 107 #[.pointer (some ⟨w.heap.size, 0, none⟩)] #[] n.net g M m0 x.t.Z W hm0 hi.state hM calls_pSettle2 calls_pSame (fun m Y W' hb' hm hs => by
      have hB := hb.trans (hb'.mono hb.size)
      refine (pSettle2_any n m w.heap.size W' (h.grown hB) hm.mem hc (hm.is hs) (b.below hb' b.lt)).mono ?_
      rintro e w2 ⟨⟨m2, rfl, hm2⟩, hb2⟩
      exact ⟨⟨m2, rfl, hm2.len, hm2.wide, fun i j hi hj => (hm2.same i j hi hj).trans (n.net.pround_congr (fun a b ha hb => hm.same a b ha hb) i j hi hj), hm2.mem⟩, hb2⟩) (fun m m2 W' h1 h2 => pSame_any m m2 W' h1 h2))
  have HNN := hide hNN
  have hcells : n.cells = #[.int .i64 n.a.size, .slice n.a.B.ga n.a.B.t.len n.a.B.cap, .slice n.a.E.ga n.a.E.t.len n.a.E.cap, .int .i64 N, .slice n.la n.ln n.lc] := by simp only [NetM.cells, Mat.val, hN]
  have x0 := b0.cell 0
  have x1 := b0.cell 1
  have x2 := b0.cell 2
  have x3 := b0.cell 3
  have x4 := b0.cell 4
  have y0 := b1.cell 0
  simp [hcells, RMat.val] at x0 x1 x2 x3 x4 y0
  have HB0 := hide hB0
  have Hb0 := hide b0
  have Hb1 := hide b1
  have HW0 := hide hW0
  rw [hW0] at HF x0 x1 x2 x3 x4 y0
  have Hcells := hide hcells
  simp only [NetM.val, hcells, RMat.val] at HF HFl HSt HW0 x0 x1 x2 x3 x4 y0 ⊢
  clear hf hc hi h hx g hB0 b0 b1 hW0 hcells hN hNN lo hi6
  go_enter Try.func42, Try.ntmps42
  go_wp2_with fail
  go_at_call 46
  refine HF.out.mono ?_
  rw [← HW0.out]
  rintro e w1 ⟨rfl, hb1⟩
  have hB1 := HB0.out.trans (hb1.mono HB0.out.size)
  have b1 := Hb0.out.below hb1 Hb0.out.lt
  have b2 := Hb1.out.below hb1 Hb1.out.lt
  have z3 := b1.cell 3
  simp [Hcells.out] at z3
  have HF1 := hide (HFl.out w1 hB1 (by simpa [RMat.val] using b2))
  have hMi : (M : Int) ≤ 1000 := by omega
  have HB1 := hide hB1
  have Hbb := hide b1
  clear HF HFl HB0 hb1 HW0 Hb0 Hb1 hB1 b1 b2 x0 x1 x2 x3 x4 y0
  go_wp2_with fail
  go_at_call 103
  refine HF1.out.mono ?_
  rintro e w2 ⟨⟨m0, rfl, hm0⟩, hb2⟩
  have hB2 := HB1.out.trans (hb2.mono HB1.out.size)
  have b2 := Hbb.out.below hb2 Hbb.out.lt
  rw [Hcells.out] at b2
  have HS1 := hide (HSt.out m0 w2 hB2 b2 (by rw [HNN.out]; exact hm0))
  have HB2 := hide hB2
  clear hm0 hb2 HF1 hB2 HB1 Hbb b2 HSt z3
  go_wp2_with fail
  go_at_call 105
  refine HS1.out.mono ?_
  rintro e w3 ⟨⟨m, rfl, hm⟩, hb3⟩
  have HM := hide hm
  have HB3 := hide (HB2.out.trans (hb3.mono HB2.out.size))
  clear hm hb3 HS1 HB2
  go_wp2
  exact bodyPost_ret (v := .tuple #[.slice m.ga m.len m.cap, .int .i64 ((n.net.psettle M x.t.Z).2 : Nat), .int .i64 0]) (by simp [results, Try.results42, go_sem]) rfl ⟨⟨m, rfl, HM.out⟩, HB3.out⟩

set_option maxHeartbeats 1000000 in
theorem pathSettle_bad (n : NetM) (x : RMat) (most : Int) (w : World) (h : n.In w.heap.size w) (hx : x.In w.heap.size w) (hf : n.net.psettleE x.t most ≠ 0) :
    Calls Try.prog 42 #[n.val, x.val, .int .i64 most] w fun e w' => e = .returned (.tuple #[.slice none 0 0, .int .i64 0, .int .i64 (n.net.psettleE x.t most)]) ∧ Below w.heap.size w w' := by
  obtain ⟨W0, hW0⟩ : ∃ W0, W0 = (w.alloc (.cells n.cells 41)).alloc (.cells #[x.val] 83) := ⟨_, rfl⟩
  have hB0 : Below w.heap.size w W0 := by rw [hW0]; exact ((Below.refl _ w).alloc (Nat.le_refl _) _).alloc (by simp) _
  have b0 : Blk W0 w.heap.size n.cells 41 := by rw [hW0]; exact (Blk.new w _ _).alloc _
  have b1 : Blk W0 (w.heap.size + 1) #[x.val] 83 := by rw [hW0]; exact Blk.new' (by simp)
  have HF := hide (pathFit_any n x W0 (h.grown hB0) (hx.grown hB0))
  have Hd : Hid (n.net.psettleE x.t most = if n.net.pfit x.t ≠ 0 then n.net.pfit x.t else if most < 0 ∨ 1000 < most then 3 else 0) := hide rfl
  have x0 := b0.cell 0
  have x1 := b0.cell 1
  have x2 := b0.cell 2
  have x3 := b0.cell 3
  have x4 := b0.cell 4
  have y0 := b1.cell 0
  simp [NetM.cells, Mat.val, RMat.val] at x0 x1 x2 x3 x4 y0
  have HB0 := hide hB0
  rw [hW0] at HF HB0 x0 x1 x2 x3 x4 y0
  generalize n.net.pfit x.t = ft at *
  generalize n.net.psettleE x.t most = se at *
  simp only [NetM.val, NetM.cells, Mat.val, RMat.val] at HF HB0 x0 x1 x2 x3 x4 y0 ⊢
  clear hB0 b0 b1 hW0 h hx
  by_cases hft : ft = 0
  · subst hft
    have hmo : most < 0 ∨ 1000 < most := by
      apply Classical.byContradiction
      intro hn
      rw [Hd.out] at hf
      simp [hn] at hf
    have He : Hid (se = 3) := hide (by rw [Hd.out]; simp [hmo])
    clear Hd hf
    by_cases h0 : most < 0
    · clear hmo
      go_enter Try.func42, Try.ntmps42
      go_wp2_with fail
      go_at_call 46
      refine HF.out.mono ?_
      rintro e w1 ⟨rfl, hb1⟩
      have HB := hide (HB0.out.trans (hb1.mono HB0.out.size))
      clear HF hb1 HB0 x0 x1 x2 x3 x4 y0
      go_wp2
      exact bodyPost_ret (v := .tuple #[.slice none 0 0, .int .i64 0, .int .i64 3]) (by simp [results, Try.results42, go_sem]) rfl ⟨by rw [He.out], HB.out⟩
    · have h1 : 1000 < most := by omega
      clear hmo
      go_enter Try.func42, Try.ntmps42
      go_wp2_with fail
      go_at_call 46
      refine HF.out.mono ?_
      rintro e w1 ⟨rfl, hb1⟩
      have HB := hide (HB0.out.trans (hb1.mono HB0.out.size))
      clear HF hb1 HB0 x0 x1 x2 x3 x4 y0
      go_wp2
      exact bodyPost_ret (v := .tuple #[.slice none 0 0, .int .i64 0, .int .i64 3]) (by simp [results, Try.results42, go_sem]) rfl ⟨by rw [He.out], HB.out⟩
  · have He : Hid (se = ft) := hide (by rw [Hd.out]; simp [hft])
    have hf' : (ft != 0) = true := by simp [hft]
    clear Hd hf hft
    go_enter Try.func42, Try.ntmps42
    go_wp2_with fail
    go_at_call 46
    refine HF.out.mono ?_
    rintro e w1 ⟨rfl, hb1⟩
    have HB := hide (HB0.out.trans (hb1.mono HB0.out.size))
    clear HF hb1 HB0 x0 x1 x2 x3 x4 y0
    go_wp2
    exact bodyPost_ret (v := .tuple #[.slice none 0 0, .int .i64 0, .int .i64 ft]) (by simp [results, Try.results42, go_sem]) rfl ⟨by rw [He.out], HB.out⟩

/-- Settle, whatever it is handed. -/
theorem pathSettle_any (n : NetM) (x : RMat) (most : Int) (w : World) (h : n.In w.heap.size w) (hx : x.In w.heap.size w) :
    Calls Try.prog 42 #[n.val, x.val, .int .i64 most] w fun e w' => (∃ (m : RMat) (k : Nat), e = .returned (.tuple #[m.val, .int .i64 (k : Int), .int .i64 (n.net.psettleE x.t most)]) ∧ RtAns n.net.N (n.net.psettle most.toNat x.t.Z).1 (n.net.psettleE x.t most) m w' ∧ k = if n.net.psettleE x.t most = 0 then (n.net.psettle most.toNat x.t.Z).2 else 0) ∧ Below w.heap.size w w' := by
  by_cases hE : n.net.psettleE x.t most = 0
  · obtain ⟨hf, h0, h1⟩ := Net.psettleE_zero hE
    obtain ⟨M, rfl⟩ : ∃ M : Nat, most = M := ⟨most.toNat, by omega⟩
    rw [hE]
    refine (pathSettle_ok n x M w h hx hf (by omega)).mono ?_
    rintro e w' ⟨⟨m, rfl, hm⟩, hb⟩
    exact ⟨⟨m, _, rfl, ⟨hm.mem, fun _ => hm, fun h => absurd rfl h⟩, by rw [if_pos rfl]; rfl⟩, hb⟩
  · refine (pathSettle_bad n x most w h hx hE).mono ?_
    rintro e w' ⟨rfl, hb⟩
    exact ⟨⟨nilR, 0, rfl, ⟨nilR_in _ _, fun e => absurd e hE, fun _ => rfl⟩, by rw [if_neg hE]⟩, hb⟩

end Go.Proofs.Ytjhkadffaephmab
