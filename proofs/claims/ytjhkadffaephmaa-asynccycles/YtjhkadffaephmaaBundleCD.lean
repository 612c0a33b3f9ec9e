/-
  Our own texts, bundled: a claim holds few files.
-/
import Derived.Test.YtjhkadffaephmaaBundleCC
import Derived.Test.YtjhkadffaephmaaBundleBH
/-
  signpostlaw.asyncBegun.
-/
namespace Go.Proofs.Ytjhkadffaephmaa
set_option maxRecDepth 100000
open Go.RowKit

/-- The schedule of two turns. -/
def twoSched : Sched := ⟨2, fun _ => 2, fun k i => decide (i = k), fun _ => litTab 1 1 1 1⟩
def twoTurn (b k : Nat) : TurnM := ⟨some ⟨b + 4 * k, 0, none⟩, 2, 2, b + 4 * k, 0, fun i => decide (i = k), litM (b + 4 * k + 1) 1 1 1 1⟩
def twoS (b : Nat) : SchedM := ⟨some ⟨b + 8, 0, none⟩, 2, 2, b + 8, 0, twoTurn b⟩
theorem twoS_sched (b : Nat) : (twoS b).sched = twoSched := rfl
theorem twoS_turns : twoNet.turns twoSched = 0 := by decide +kernel
theorem twoS_cycles : twoNet.cyclesR twoSched = 1 := by decide +kernel
theorem twoS_fit : runE twoNet (litTab 2 2 2 2) twoSched = 0 := by decide +kernel
theorem twoS_same : Tab.same ⟨2, fun _ => 2, twoNet.st twoSched (litTab 2 2 2 2).Z 2⟩ (litTab 0 2 1 0) = true := by decide +kernel

theorem IsSt.same {N : Nat} {Y : Nat → Nat → Int} {m : Mat} {W : World} {t : Tab} (h : IsSt N Y m W) (e : Tab.same ⟨N, fun _ => N, Y⟩ t = true) : m.t.same t = true := by
  obtain ⟨e1, e2⟩ := Tab.same_iff.1 e
  refine Tab.same_iff.2 ⟨by rw [h.len]; exact e1, fun r hr => ?_⟩
  rw [h.len] at hr
  obtain ⟨e3, e4⟩ := e2 r hr
  refine ⟨by rw [h.wide r hr]; exact e3, fun c hc => ?_⟩
  rw [h.wide r hr] at hc
  rw [h.val r hr c hc]
  exact e4 c hc

def litW (w : World) (x y z u : Int) : World := ((w.alloc (.cells #[.int .i64 x, .int .i64 y] 3)).alloc (.cells #[.int .i64 z, .int .i64 u] 3)).alloc (.cells #[.slice (some ⟨w.heap.size, 0, none⟩) 2 2, .slice (some ⟨w.heap.size + 1, 0, none⟩) 2 2] 32)
theorem litW_below (w : World) (x y z u : Int) : Below w.heap.size w (litW w x y z u) := (((Below.refl _ w).alloc (Nat.le_refl _) _).alloc (by simp) _).alloc (by simp; omega) _
theorem litW_size (w : World) (x y z u : Int) : (litW w x y z u).heap.size = w.heap.size + 3 := by simp [litW]
theorem litW_in (w : World) (x y z u : Int) : (litM w.heap.size x y z u).In (w.heap.size + 3) (litW w x y z u) :=
  litM_in (((Blk.new w _ _).alloc _).alloc _) ((Blk.new' (by simp)).alloc _) (Blk.new' (by simp)) (Nat.lt_succ_self _)

/-- One turn as it is written out. -/
def turnW (w : World) (x y : Bool) : World := litW (w.alloc (.cells #[.bool x, .bool y] 4)) 1 1 1 1
theorem turnW_below (w : World) (x y : Bool) : Below w.heap.size w (turnW w x y) := by
  have h1 : Below w.heap.size w (w.alloc (.cells #[.bool x, .bool y] 4)) := (Below.refl _ w).alloc (Nat.le_refl _) _
  exact h1.trans ((litW_below _ 1 1 1 1).mono (by simp))
theorem turnW_size (w : World) (x y : Bool) : (turnW w x y).heap.size = w.heap.size + 4 := by simp [turnW, litW_size]
theorem turnW_in (w : World) (b k : Nat) (hb : w.heap.size = b + 4 * k) : (twoTurn b k).In (b + 4 * k + 4) (turnW w (decide (0 = k)) (decide (1 = k))) := by
  have bB : Blk (turnW w (decide (0 = k)) (decide (1 = k))) (b + 4 * k) #[.bool (decide (0 = k)), .bool (decide (1 = k))] 4 := by
    have h0 := Blk.new w #[.bool (decide (0 = k)), .bool (decide (1 = k))] 4
    rw [hb] at h0
    exact h0.below (litW_below _ 1 1 1 1) (by simp; omega)
  refine ⟨fun _ => rfl, fun _ => by show b + 4 * k < _; omega, fun i hi => ?_, by show 2 ≤ maxLen; unfold maxLen; omega, ?_⟩
  · have hi' : i < 2 := hi
    match i, hi' with
    | 0, _ => exact bB.cell 0
    | 1, _ => exact bB.cell 1
  · have := litW_in (w.alloc (.cells #[.bool (decide (0 = k)), .bool (decide (1 = k))] 4)) 1 1 1 1
    rw [show (w.alloc (.cells #[.bool (decide (0 = k)), .bool (decide (1 = k))] 4)).heap.size = b + 4 * k + 1 by simp; omega] at this
    exact this

/-- The schedule as it is written out. -/
def schedW (w : World) : World := (turnW (turnW w true false) false true).alloc (.cells #[.slice (some ⟨w.heap.size, 0, none⟩) 2 2, .slice (some ⟨w.heap.size + 3, 0, none⟩) 2 2, .slice (some ⟨w.heap.size + 4, 0, none⟩) 2 2, .slice (some ⟨w.heap.size + 7, 0, none⟩) 2 2] 123)
theorem schedW_below (w : World) : Below w.heap.size w (schedW w) := by
  have h1 := turnW_below w true false
  have h2 := h1.trans ((turnW_below (turnW w true false) false true).mono h1.size)
  exact h2.alloc h2.size _
theorem schedW_size (w : World) : (schedW w).heap.size = w.heap.size + 9 := by simp [schedW, turnW_size]
theorem schedW_in (w : World) : (twoS w.heap.size).In (schedW w).heap.size (schedW w) := by
  have hb : Blk (schedW w) (w.heap.size + 8) #[.slice (some ⟨w.heap.size, 0, none⟩) 2 2, .slice (some ⟨w.heap.size + 3, 0, none⟩) 2 2, .slice (some ⟨w.heap.size + 4, 0, none⟩) 2 2, .slice (some ⟨w.heap.size + 7, 0, none⟩) 2 2] 123 := Blk.new' (by simp [turnW_size])
  have s := schedW_size w
  have hB2 := turnW_below (turnW w true false) false true
  have hB3 : Below (turnW (turnW w true false) false true).heap.size (turnW (turnW w true false) false true) (schedW w) := (Below.refl _ _).alloc (Nat.le_refl _) _
  refine ⟨fun _ => rfl, fun _ => by show w.heap.size + 8 < _; omega, fun k hk => ?_, fun k hk => ?_, fun k hk => ?_, by show 2 ≤ maxLen; unfold maxLen; omega⟩
  · have hk' : k < 2 := hk
    match k, hk' with
    | 0, _ => exact hb.cell 0
    | 1, _ => exact hb.cell 2
  · have hk' : k < 2 := hk
    match k, hk' with
    | 0, _ => exact hb.cell 1
    | 1, _ => exact hb.cell 3
  · have hk' : k < 2 := hk
    match k, hk' with
    | 0, _ =>
      have h0 := turnW_in w w.heap.size 0 (by omega)
      have z1 := turnW_size w true false
      have z2 := turnW_size (turnW w true false) false true
      exact ((TurnM.In.below (k := w.heap.size + 4) h0 (by rw [← z1]; exact hB2) (by omega)).below hB3 (by omega)).mono (by omega)
    | 1, _ =>
      have z1 := turnW_size w true false
      have z2 := turnW_size (turnW w true false) false true
      have h0 := turnW_in (turnW w true false) w.heap.size 1 (by omega)
      exact (TurnM.In.below h0 hB3 (by omega)).mono (by omega)

theorem calls_world {f : FuncId} {a : Array Value} {W W' : World} {Q : Ending → World → Prop} (h : W = W') (k : Calls Try.prog f a W' Q) : Calls Try.prog f a W Q := h ▸ k

set_option maxHeartbeats 2000000 in
theorem asyncBegun_any (w : World) :
    Calls Try.prog 47 #[] w fun e w' => e = .returned (.bool true) ∧ Below w.heap.size w w' := by
  have hB0 := schedW_below w
  have hS0 := schedW_in w
  have hV : (twoS w.heap.size).val = .slice (some ⟨w.heap.size + 1 + 1 + 1 + 1 + 1 + 1 + 1 + 1, 0, none⟩) 2 2 := rfl
  have hTn : (twoS w.heap.size).tn = 2 := rfl
  have HsC := twoS_sched w.heap.size
  go_enter Try.func47, Try.ntmps47
  go_wp2_with fail
  go_at_call 79
  refine calls_world (W' := schedW w) (by simp [schedW, turnW, litW, Nat.add_assoc]) ?_
  generalize schedW w = W0 at *
  generalize twoS w.heap.size = s at *
  refine (two_any _).mono ?_
  rintro e w1 ⟨⟨n1, rfl, hn1, hI1⟩, hb1⟩
  have hB1 := hB0.trans (hb1.mono hB0.size)
  have hlb := litW_below w1 2 2 2 2
  have hlit := litW_in w1 2 2 2 2
  rw [← litW_size w1 2 2 2 2] at hlit
  have hBl := hB1.trans (hlb.mono hB1.size)
  have hS1 := hS0.grown (hb1.trans (hlb.mono hb1.size))
  have HR := hide (run_any n1 (litM w1.heap.size 2 2 2 2) s _ (hI1.grown hlb) hlit hS1)
  rw [hn1, HsC, show (litM w1.heap.size 2 2 2 2).t = litTab 2 2 2 2 from rfl, hV, twoS_fit, hTn, two_N] at HR
  simp only [NetM.val, NetM.cells, Mat.val, litM, litTab] at HR ⊢
  clear hI1 hlit hS0
  go_wp2_with fail
  go_at_call 44
  refine calls_world (W' := litW w1 2 2 2 2) (by simp [litW]) ?_
  generalize litW w1 2 2 2 2 = W1 at *
  refine HR.out.mono ?_
  rintro e w2 ⟨hA, hb2⟩
  obtain ⟨g, cap, ms, rfl, hg, hSt⟩ := hA.1 rfl
  have hSt2 : IsSt 2 (twoNet.st twoSched (litTab 2 2 2 2).Z 2) (ms 2) w2 := hSt.each 2 (by omega)
  have hcel := hSt.cell 2 (by omega)
  have hgl := hSt.lt
  have hsame := hSt2.same twoS_same
  have hB2 := hBl.trans (hb2.mono hBl.size)
  have hS2 := hS1.grown hb2
  clear HR hb2 hBl hS1 hA hb1 hB1 hlb hSt hB0
  go_wp2_with fail
  go_at_call 79
  refine (two_any _).mono ?_
  rintro e w3 ⟨⟨n3, rfl, hn3, hI3⟩, hb3⟩
  have hB3 := hB2.trans (hb3.mono hB2.size)
  have hS3 := hS2.grown hb3
  have hSt3 := hSt2.grown hb3
  have hc3 := hb3.cell (p := ⟨g, 2, none⟩) hgl
  rw [hcel] at hc3
  have hg3 := Nat.lt_of_lt_of_le hgl hb3.size
  have HY := hide (cycles_any n3 s w3 hI3 hS3)
  rw [hn3, HsC, hV, twoS_cycles, twoS_turns] at HY
  clear hB2 hS2 hSt2 hcel hgl hb3 hI3
  simp only [NetM.val, NetM.cells, Mat.val] at HY ⊢
  go_wp2_with fail
  go_at_call 50
  refine HY.out.mono ?_
  rintro e w4 ⟨rfl, hb4⟩
  have hB4 := hB3.trans (hb4.mono hB3.size)
  have hS4 := hS3.grown hb4
  have hSt4 := hSt3.grown hb4
  have hc4 := hb4.cell (p := ⟨g, 2, none⟩) hg3
  rw [hc3] at hc4
  have hg4 := Nat.lt_of_lt_of_le hg3 hb4.size
  clear HY hB3 hS3 hSt3 hc3 hg3 hb4
  go_wp2_with fail
  go_at_call 79
  refine (two_any _).mono ?_
  rintro e w5 ⟨⟨n5, rfl, hn5, hI5⟩, hb5⟩
  have hB5 := hB4.trans (hb5.mono hB4.size)
  have hS5 := hS4.grown hb5
  have hSt5 := hSt4.grown hb5
  have hc5 := hb5.cell (p := ⟨g, 2, none⟩) hg4
  rw [hc4] at hc5
  have hg5 := Nat.lt_of_lt_of_le hg4 hb5.size
  have HC := hide (asyncCheck_any n5 s w5 hI5 hS5)
  rw [hn5, HsC, hV, twoS_turns] at HC
  clear hB4 hS4 hSt4 hc4 hg4 hb5 hI5
  simp only [NetM.val, NetM.cells, Mat.val] at HC ⊢
  go_wp2_with fail
  go_at_call 48
  refine HC.out.mono ?_
  rintro e w6 ⟨rfl, hb6⟩
  have hB6 := hB5.trans (hb6.mono hB5.size)
  have hSt6 := hSt5.grown hb6
  have hc6 := hb6.cell (p := ⟨g, 2, none⟩) hg5
  rw [hc5, Mat.val] at hc6
  have hg6 := Nat.lt_of_lt_of_le hg5 hb6.size
  have hl6 := litW_below w6 0 2 1 0
  have hlit := litW_in w6 0 2 1 0
  rw [← litW_size w6 0 2 1 0] at hlit
  have HSS := hide (sameState_any (ms 2) (litM w6.heap.size 0 2 1 0) _ _ (hSt6.grown hl6).mem hlit)
  rw [show (litM w6.heap.size 0 2 1 0).t = litTab 0 2 1 0 from rfl, hsame] at HSS
  have hB7 := hide (hB6.trans (hl6.mono hB6.size))
  simp only [Mat.val, litM, litTab] at HSS
  clear HC hB5 hS5 hSt5 hc5 hg5 hb6 hSt6 hl6 hlit hB6 hg6
  go_wp2_with fail
  go_at_call 43
  refine calls_world (W' := litW w6 0 2 1 0) (by simp [litW]) ?_
  refine HSS.out.mono ?_
  rintro e w7 ⟨rfl, q, rfl⟩
  go_wp2
  go_ret
  exact ⟨rfl, below_drewN hB7.out q⟩

end Go.Proofs.Ytjhkadffaephmaa
