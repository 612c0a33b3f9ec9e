/-
  Our own texts, bundled: a claim holds few files.
-/
import Derived.Test.YtjhkadffaephmabBundleBG
import Derived.Test.YtjhkadffaephmabBundleAH
/-
  signpostlaw.two, netBegun.
-/
namespace Go.Proofs.Ytjhkadffaephmab
set_option maxRecDepth 100000
open Go.RowKit

theorem Net.fit_of_is {n : Net} {t : Tab} (hc : n.check = 0) (h : n.Is t) : n.fit t = 0 := by
  have g := Net.good_of_check hc
  have lo := g.lo
  unfold Net.fit
  rw [if_pos hc]
  unfold Net.rows
  have hl := h.len
  have hN : (n.N : Int) = n.nodes := by unfold Net.N; omega
  have hw : t.wide n.nodes = true := (t.wide_iff n.nodes).2 (fun r hr => by rw [h.wide r (by omega), hN])
  have hr : t.routes n.a.size = true := (t.routes_iff n.a.size).2 (fun r hr c hcc => h.state r c (by omega) (by rw [h.wide r (by omega)] at hcc; exact hcc))
  rw [if_neg (by simp [hw, hl, hN]), if_neg (by simp [hr])]
theorem Net.begin_state {n : Net} (hc : n.check = 0) : n.State n.begin := fun i j _ _ => by
  have lo := (Net.good_of_check hc).law.good.lo
  unfold Net.begin
  split <;> omega

/-- The net of two nodes. -/
def twoNet : Net := ⟨⟨3, hopsB, hopsE⟩, 2, 2, fun i => i, fun i => 1 - i, fun _ => 0⟩
def twoM (b l : Nat) : NetM := ⟨hopsM b, 2, some ⟨l, 0, none⟩, 2, 2, l, 0, fun i => i, fun i => 1 - i, fun _ => 0⟩
theorem two_check : twoNet.check = 0 := by decide +kernel
theorem two_count : (twoNet.settle 10 twoNet.begin).2 = 1 := by decide +kernel
def litTab (a b c d : Int) : Tab := ⟨2, fun _ => 2, fun r s => if r = 0 then (if s = 0 then a else b) else (if s = 0 then c else d)⟩
theorem two_same : Tab.same ⟨2, fun _ => 2, (twoNet.settle 10 twoNet.begin).1⟩ (litTab 0 1 1 0) = true := by decide +kernel
theorem two_N : twoNet.N = 2 := by rfl

set_option maxHeartbeats 2000000 in
theorem two_any (w : World) :
    Calls Try.prog 69 #[] w fun e w' => (∃ n : NetM, e = .returned n.val ∧ n.net = twoNet ∧ n.In w'.heap.size w') ∧ Below w.heap.size w w' := by
  have hB0 : Below w.heap.size w (w.alloc (.cells #[.int .i64 0, .slice none 0 0, .slice none 0 0, .int .i64 0, .slice none 0 0] 41)) := (Below.refl _ w).alloc (Nat.le_refl _) _
  have b0 := Blk.new w #[.int .i64 0, .slice none 0 0, .slice none 0 0, .int .i64 0, .slice none 0 0] 41
  go_enter Try.func69, Try.ntmps69
  go_wp2_with fail
  go_at_call 76
  refine (hops_any _).mono ?_
  rintro e w1 ⟨rfl, hI, hb1⟩
  have hs0 : (w.alloc (.cells #[.int .i64 0, .slice none 0 0, .slice none 0 0, .int .i64 0, .slice none 0 0] 41)).heap.size = w.heap.size + 1 := by simp
  rw [hs0] at hI hb1 ⊢
  have hB1 := hB0.trans (hb1.mono (by omega))
  have b1 := b0.below hb1 (by omega)
  have hs1 := hb1.size
  have bL := Blk.new w1 #[.int .i64 0, .int .i64 1, .int .i64 0, .int .i64 1, .int .i64 0, .int .i64 0] 79
  have hB2 := hB1.alloc hB1.size (.cells #[.int .i64 0, .int .i64 1, .int .i64 0, .int .i64 1, .int .i64 0, .int .i64 0] 79)
  have b2 := b1.alloc (.cells #[.int .i64 0, .int .i64 1, .int .i64 0, .int .i64 1, .int .i64 0, .int .i64 0] 79)
  have d0 := b2.cell 0
  have d1 := b2.cell 1
  have d2 := b2.cell 2
  have d3 := b2.cell 3
  have d4 := b2.cell 4
  have fR := b2.frozen
  simp at d0 d1 d2 d3 d4
  have hI2 := (hI.below ((Below.refl _ w1).alloc (Nat.le_refl _) (.cells #[.int .i64 0, .int .i64 1, .int .i64 0, .int .i64 1, .int .i64 0, .int .i64 0] 79)) (Nat.le_refl _))
  simp only [hopsM, AlgM.val, Mat.val, hopsBM, hopsEM, hopsB, hopsE]
  go_wp2
  have b5 := b2.set5 (.int .i64 3) (.slice (some ⟨w.heap.size + 1 + 4, 0, none⟩) 3 3) (.slice (some ⟨w.heap.size + 1 + 6, 0, none⟩) 1 1) (.int .i64 2) (.slice (some ⟨w1.heap.size, 0, none⟩) 2 2)
  have e0 := b5.cell 0
  have e1 := b5.cell 1
  have e2 := b5.cell 2
  have e3 := b5.cell 3
  have e4 := b5.cell 4
  unfold Ytjhkadffaephmab.set5 at e0 e1 e2 e3 e4
  simp at e0 e1 e2 e3 e4
  have hfB : (hopsBM (w.heap.size + 1)).From (w.heap.size + 1) := ⟨fun _ => by show w.heap.size + 1 ≤ w.heap.size + 1 + 4; omega, fun r _ _ => by show w.heap.size + 1 ≤ w.heap.size + 1 + 1 + r; omega⟩
  have hfE : (hopsEM (w.heap.size + 1)).From (w.heap.size + 1) := ⟨fun _ => by show w.heap.size + 1 ≤ w.heap.size + 1 + 6; omega, fun r _ _ => by show w.heap.size + 1 ≤ w.heap.size + 1 + 5; omega⟩
  have hl : w.heap.size < w1.heap.size := by omega
  have bL5 := ((((bL.other (show w1.heap.size ≠ w.heap.size by omega) 0 (.int .i64 3)).other (show w1.heap.size ≠ w.heap.size by omega) 1 (.slice (some ⟨w.heap.size + 1 + 4, 0, none⟩) 3 3)).other (show w1.heap.size ≠ w.heap.size by omega) 2 (.slice (some ⟨w.heap.size + 1 + 6, 0, none⟩) 1 1)).other (show w1.heap.size ≠ w.heap.size by omega) 3 (.int .i64 2)).other (show w1.heap.size ≠ w.heap.size by omega) 4 (.slice (some ⟨w1.heap.size, 0, none⟩) 2 2)
  refine bodyPost_ret (v := (twoM (w.heap.size + 1) w1.heap.size).val) (by simp [results, Try.results69, go_sem, e0, e1, e2, e3, e4, twoM, NetM.val, NetM.cells, hopsM, Mat.val, hopsBM, hopsEM, hopsB, hopsE]) rfl ⟨⟨twoM (w.heap.size + 1) w1.heap.size, rfl, rfl, ?_⟩, below5 hB2 (Nat.le_refl _) _ _ _ _ _⟩
  refine ⟨⟨?_, ?_⟩, fun _ => rfl, fun _ => by show w1.heap.size < _; simp, ?_, ?_, ?_, by show 2 ≤ maxLen; unfold maxLen; omega⟩
  · refine Mat.In.mono (k := _) (n := w1.heap.size) ?_ (by simp)
    exact ((((hI2.B.other hfB (by omega) _).other hfB (by omega) _).other hfB (by omega) _).other hfB (by omega) _).other hfB (by omega) _
  · refine Mat.In.mono (k := _) (n := w1.heap.size) ?_ (by simp)
    exact ((((hI2.E.other hfE (by omega) _).other hfE (by omega) _).other hfE (by omega) _).other hfE (by omega) _).other hfE (by omega) _
  · intro i hi
    have hi' : i < 2 := hi
    match i, hi' with
    | 0, _ => exact bL5.cell 0
    | 1, _ => exact bL5.cell 3
  · intro i hi
    have hi' : i < 2 := hi
    match i, hi' with
    | 0, _ => exact bL5.cell 1
    | 1, _ => exact bL5.cell 4
  · intro i hi
    have hi' : i < 2 := hi
    match i, hi' with
    | 0, _ => exact bL5.cell 2
    | 1, _ => exact bL5.cell 5

/-- A state of two nodes as it is written out. -/
def litM (b : Nat) (x y z u : Int) : Mat := ⟨some ⟨b + 2, 0, none⟩, b + 2, 0, 2, fun r => some ⟨b + r, 0, none⟩, fun _ => 2, fun r => b + r, fun _ => 0, litTab x y z u⟩
theorem litM_in {b k : Nat} {x y z u : Int} {w : World} (b1 : Blk w b #[.int .i64 x, .int .i64 y] 3) (b2 : Blk w (b + 1) #[.int .i64 z, .int .i64 u] 3)
    (b3 : Blk w (b + 2) #[.slice (some ⟨b, 0, none⟩) 2 2, .slice (some ⟨b + 1, 0, none⟩) 2 2] 22) (hk : b + 2 < k) : (litM b x y z u).In k w where
  ga := fun _ => rfl
  gb := fun _ => hk
  row := fun r hr => by
    have hr' : r < 2 := hr
    match r, hr' with
    | 0, _ => exact b3.cell 0
    | 1, _ => exact b3.cell 1
  addr := fun r hr _ => ⟨rfl, by have hr' : r < 2 := hr; show b + r < k; omega⟩
  cell := fun r hr c hc => by
    have hr' : r < 2 := hr
    have hc' : c < 2 := hc
    match r, hr', c, hc' with
    | 0, _, 0, _ => exact b1.cell 0
    | 0, _, 1, _ => exact b1.cell 1
    | 1, _, 0, _ => exact b2.cell 0
    | 1, _, 1, _ => exact b2.cell 1
  len := by show 2 ≤ maxLen; unfold maxLen; omega
  lens := fun _ _ => by show 2 ≤ maxLen; unfold maxLen; omega

set_option maxHeartbeats 2000000 in
theorem netBegun_any (w : World) :
    Calls Try.prog 23 #[] w fun e w' => e = .returned (.bool true) ∧ Below w.heap.size w w' := by
  go_enter Try.func23, Try.ntmps23
  go_wp2_with fail
  go_at_call 69
  refine (two_any _).mono ?_
  rintro e w1 ⟨⟨n1, rfl, hn1, hI1⟩, hb1⟩
  have HB := hide (netBegin_ok n1 w1 hI1 (by rw [hn1]; exact two_check))
  rw [hn1] at HB
  have hs1 := hb1.size
  clear hI1
  simp only [NetM.val, NetM.cells, Mat.val] at HB ⊢
  go_wp2_with fail
  go_at_call 28
  refine HB.out.mono ?_
  rintro e w2 ⟨⟨m, rfl, hm⟩, hb2⟩
  have hB2 := hb1.trans (hb2.mono hs1)
  clear HB hb1 hb2
  go_wp2_with fail
  go_at_call 69
  refine (two_any _).mono ?_
  rintro e w3 ⟨⟨n3, rfl, hn3, hI3⟩, hb3⟩
  have hB3 := hB2.trans (hb3.mono hB2.size)
  have hm3 := hm.grown hb3
  have hmt : m.t.Z = twoNet.begin := by rw [hm.1]
  have HS := hide (netSettle_ok n3 m 10 w3 hI3 hm3.2.1 (by rw [hn3, hm.1]; exact Net.fit_of_is two_check (Net.Is.mk' (Net.begin_state two_check))) (by omega))
  rw [hn3, hmt, two_count] at HS
  clear hb3 hB2 hm hI3 hm3
  simp only [NetM.val, NetM.cells, Mat.val] at HS ⊢
  go_wp2_with fail
  go_at_call 29
  refine HS.out.mono ?_
  rintro e w4 ⟨⟨m4, rfl, hm4⟩, hb4⟩
  have hB4 := hB3.trans (hb4.mono hB3.size)
  clear HS hb4 hB3
  go_wp2_with fail
  go_at_call 69
  refine (two_any _).mono ?_
  rintro e w5 ⟨⟨n5, rfl, hn5, hI5⟩, hb5⟩
  have hB5 := hB4.trans (hb5.mono hB4.size)
  have hm5 := hm4.grown hb5
  have HC := hide (netCheck_any n5 w5 hI5)
  rw [hn5, two_check] at HC
  clear hb5 hB4 hm4 hI5
  simp only [NetM.val, NetM.cells, Mat.val] at HC ⊢
  go_wp2_with fail
  go_at_call 70
  refine HC.out.mono ?_
  rintro e w6 ⟨rfl, hb6⟩
  have hB6 := hB5.trans (hb6.mono hB5.size)
  have hm6 := hm5.grown hb6
  have hbl : Below w6.heap.size w6 (((w6.alloc (.cells #[.int .i64 0, .int .i64 1] 3)).alloc (.cells #[.int .i64 1, .int .i64 0] 3)).alloc (.cells #[.slice (some ⟨w6.heap.size, 0, none⟩) 2 2, .slice (some ⟨w6.heap.size + 1, 0, none⟩) 2 2] 22)) :=
    (((Below.refl _ w6).alloc (Nat.le_refl _) _).alloc (by simp) _).alloc (by simp; omega) _
  have hlit : (litM w6.heap.size 0 1 1 0).In _ (((w6.alloc (.cells #[.int .i64 0, .int .i64 1] 3)).alloc (.cells #[.int .i64 1, .int .i64 0] 3)).alloc (.cells #[.slice (some ⟨w6.heap.size, 0, none⟩) 2 2, .slice (some ⟨w6.heap.size + 1, 0, none⟩) 2 2] 22)) :=
    litM_in (((Blk.new w6 _ _).alloc _).alloc _) ((Blk.new' (by simp)).alloc _) (Blk.new' (by simp)) (Nat.lt_succ_self _)
  have hB7 := hide (hB6.trans (hbl.mono hB6.size))
  have HSS := hide (sameState_any m4 (litM w6.heap.size 0 1 1 0) _ _ (hm6.grown hbl).2.1 (hlit.mono (by simp)))
  rw [hm6.1, two_N, show (litM w6.heap.size 0 1 1 0).t = litTab 0 1 1 0 from rfl, two_same] at HSS
  simp only [Mat.val, litM, litTab] at HSS
  rw [hm6.1, two_N] at HSS ⊢
  clear HC hb6 hB5 hm5 hB6 hm6 hbl hlit
  go_wp2_with fail
  go_at_call 30
  refine HSS.out.mono ?_
  rintro e w7 ⟨rfl, q, rfl⟩
  go_wp2
  go_ret
  exact ⟨rfl, below_drewN hB7.out q⟩

end Go.Proofs.Ytjhkadffaephmab

/-
  signpostlaw.NetAlways: the walk.
-/
namespace Go.Proofs.Ytjhkadffaephmab
set_option maxRecDepth 100000
open Go.RowKit

/-- No state at all. -/
def nilM : Mat := ⟨none, 0, 0, 0, fun _ => none, fun _ => 0, fun _ => 0, fun _ => 0, ⟨0, fun _ => 0, fun _ _ => 0⟩⟩
theorem nilM_in (k : Nat) (w : World) : nilM.In k w where
  ga := fun h => absurd h (Nat.not_lt_zero _)
  gb := fun h => absurd h (Nat.not_lt_zero _)
  row := fun _ h => absurd h (Nat.not_lt_zero _)
  addr := fun _ h => absurd h (Nat.not_lt_zero _)
  cell := fun _ h => absurd h (Nat.not_lt_zero _)
  len := Nat.zero_le _
  lens := fun _ h => absurd h (Nat.not_lt_zero _)
theorem nilM_from (k : Nat) : nilM.From k := ⟨fun h => absurd h (Nat.not_lt_zero _), fun _ h => absurd h (Nat.not_lt_zero _)⟩

/-- What a call that answers a state and an error answers. -/
structure StateAns (N lo : Nat) (Z : Nat → Nat → Int) (E : Int) (m : Mat) (W : World) : Prop where
  mem : m.In W.heap.size W
  own : m.From lo
  ok : E = 0 → m.t = ⟨N, fun _ => N, Z⟩
  bad : E ≠ 0 → m.t.len = 0

theorem StateAns.grown {N lo : Nat} {Z : Nat → Nat → Int} {E : Int} {m : Mat} {W W' : World} (h : StateAns N lo Z E m W) (hb : Below W.heap.size W W') : StateAns N lo Z E m W' := ⟨h.mem.grown hb, h.own, h.ok, h.bad⟩

theorem netSettle_any (n : NetM) (x : Mat) (most : Int) (w : World) (h : n.In w.heap.size w) (hx : x.In w.heap.size w) :
    Calls Try.prog 29 #[n.val, x.val, .int .i64 most] w fun e w' => (∃ (m : Mat) (c : Nat), e = .returned (.tuple #[m.val, .int .i64 c, .int .i64 (n.net.settleE x.t most)]) ∧
      StateAns n.net.N w.heap.size (n.net.settle most.toNat x.t.Z).1 (n.net.settleE x.t most) m w' ∧ (n.net.settleE x.t most = 0 → c = (n.net.settle most.toNat x.t.Z).2) ∧ (n.net.settleE x.t most ≠ 0 → c = 0)) ∧ Below w.heap.size w w' := by
  by_cases hE : n.net.settleE x.t most = 0
  · have hf : n.net.fit x.t = 0 := by
      apply Classical.byContradiction
      intro hn
      unfold Net.settleE at hE
      rw [if_pos hn] at hE
      exact hn hE
    have hm : 0 ≤ most ∧ most ≤ 1000 := by
      apply Classical.byContradiction
      intro hn
      unfold Net.settleE at hE
      rw [if_neg (by simp [hf]), if_pos (by omega)] at hE
      cases hE
    have hc : (most.toNat : Int) = most := by omega
    have := netSettle_ok n x most.toNat w h hx hf (by omega)
    rw [hc] at this
    refine this.mono ?_
    rintro e w' ⟨⟨m, rfl, hm⟩, hb⟩
    rw [hE]
    exact ⟨⟨m, _, rfl, ⟨hm.2.1, hm.2.2, fun _ => hm.1, fun h => absurd rfl h⟩, fun _ => rfl, fun h => absurd rfl h⟩, hb⟩
  · refine (netSettle_bad n x most w h hx hE).mono ?_
    rintro e w' ⟨rfl, hb⟩
    exact ⟨⟨nilM, 0, rfl, ⟨nilM_in _ _, nilM_from _, fun h => absurd h hE, fun _ => rfl⟩, fun h => absurd h hE, fun _ => rfl⟩, hb⟩

theorem netRound_any (n : NetM) (x : Mat) (w : World) (h : n.In w.heap.size w) (hx : x.In w.heap.size w) :
    Calls Try.prog 114 #[n.val, x.val] w fun e w' => (∃ m : Mat, e = .returned (.tuple #[m.val, .int .i64 (n.net.fit x.t)]) ∧ StateAns n.net.N w.heap.size (n.net.round x.t.Z) (n.net.fit x.t) m w') ∧ Below w.heap.size w w' := by
  by_cases hE : n.net.fit x.t = 0
  · refine (netRound_ok n x w h hx hE).mono ?_
    rintro e w' ⟨⟨m, rfl, hm⟩, hb⟩
    rw [hE]
    exact ⟨⟨m, rfl, hm.2.1, hm.2.2, fun _ => hm.1, fun h => absurd rfl h⟩, hb⟩
  · refine (netRound_bad n x w h hx hE).mono ?_
    rintro e w' ⟨rfl, hb⟩
    exact ⟨⟨nilM, rfl, nilM_in _ _, nilM_from _, fun h => absurd h hE, fun _ => rfl⟩, hb⟩

theorem netBegin_any (n : NetM) (w : World) (h : n.In w.heap.size w) :
    Calls Try.prog 28 #[n.val] w fun e w' => (∃ m : Mat, e = .returned (.tuple #[m.val, .int .i64 n.net.check]) ∧ StateAns n.net.N w.heap.size n.net.begin n.net.check m w') ∧ Below w.heap.size w w' := by
  by_cases hE : n.net.check = 0
  · refine (netBegin_ok n w h hE).mono ?_
    rintro e w' ⟨⟨m, rfl, hm⟩, hb⟩
    rw [hE]
    exact ⟨⟨m, rfl, hm.2.1, hm.2.2, fun _ => hm.1, fun h => absurd rfl h⟩, hb⟩
  · refine (netBegin_bad n w h hE).mono ?_
    rintro e w' ⟨rfl, hb⟩
    exact ⟨⟨nilM, rfl, nilM_in _ _, nilM_from _, fun h => absurd h hE, fun _ => rfl⟩, hb⟩

/-- What the mathematics says of two states that settled. -/
theorem Net.always {n : Net} (hs : n.a.Strict) {s t : Tab} (h1 : n.fit s = 0) (h2 : n.fit t = 0) :
    ((n.settle 100 s.Z).2 : Int) ≤ n.a.size ∧ ((n.settle 100 t.Z).2 : Int) ≤ n.a.size ∧ n.State (n.settle 100 s.Z).1 ∧
      Tab.same ⟨n.N, fun _ => n.N, (n.settle 100 s.Z).1⟩ ⟨n.N, fun _ => n.N, (n.settle 100 t.Z).1⟩ = true ∧
      Tab.same ⟨n.N, fun _ => n.N, n.round (n.settle 100 s.Z).1⟩ ⟨n.N, fun _ => n.N, (n.settle 100 s.Z).1⟩ = true := by
  obtain ⟨hc, i1⟩ := Net.is_of_fit h1
  obtain ⟨_, i2⟩ := Net.is_of_fit h2
  have g := Net.good_of_check hc
  have hi := g.law.good.hi
  obtain ⟨a1, a2, a3⟩ := n.settle_strict g hs i1.state (m := 100) (by omega)
  obtain ⟨b1, b2, b3⟩ := n.settle_strict g hs i2.state (m := 100) (by omega)
  refine ⟨by omega, by omega, a2, ?_, ?_⟩
  · rw [Net.same_tab, Net.same_iff]
    exact n.fix_one g hs a2 b2 a3 b3
  · rw [Net.same_tab, Net.same_iff]
    exact a3

end Go.Proofs.Ytjhkadffaephmab
