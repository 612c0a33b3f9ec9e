/-
  Our own texts, bundled: a claim holds few files.
-/
import Derived.Test.YtjhkadffaephmabBundleFA
import Derived.Test.YtjhkadffaephmabBundleFD
import Derived.Test.YtjhkadffaephmabBundleBH
/-
  signpostlaw.pathBegun, routeIs.
-/
namespace Go.Proofs.Ytjhkadffaephmab
set_option maxRecDepth 100000
open Go.RowKit

/-- Nothing but the invalid one. -/
def noneZ : Nat → Nat → Rt := fun _ _ => ⟨2, []⟩
theorem two_pfit : twoNet.pfit ⟨2, fun _ => 2, noneZ⟩ = 0 := by decide +kernel
theorem two_pcount : (twoNet.psettle 10 noneZ).2 = 2 := by decide +kernel
theorem two_pval : ((twoNet.psettle 10 noneZ).1 0 1).same ⟨1, [0, 1]⟩ = true := by decide +kernel

def noneR : RtM := ⟨2, none, 0, 0, 0, 0, fun _ => 0⟩
def litR (b : Nat) : RMat := ⟨some ⟨b + 1 + 1, 0, none⟩, b + 1 + 1, 0, 2, fun r => some ⟨b + r, 0, none⟩, fun _ => 2, fun r => b + r, fun _ => 0, 2, fun _ => 2, fun _ _ => noneR⟩
theorem litR_in {b k : Nat} {w : World} (b1 : Blk w b #[.int .i64 2, .slice none 0 0, .int .i64 2, .slice none 0 0] 71) (b2 : Blk w (b + 1) #[.int .i64 2, .slice none 0 0, .int .i64 2, .slice none 0 0] 71)
    (b3 : Blk w (b + 1 + 1) #[.slice (some ⟨b, 0, none⟩) 2 2, .slice (some ⟨b + 1, 0, none⟩) 2 2] 94) (hk : b + 1 + 1 < k) : (litR b).In k w where
  ga := fun _ => rfl
  gb := fun _ => hk
  row := fun r hr => by
    have hr' : r < 2 := hr
    match r, hr' with
    | 0, _ => exact b3.cell 0
    | 1, _ => exact b3.cell 1
  addr := fun r hr _ => ⟨rfl, by have hr' : r < 2 := hr; show b + r < k; omega⟩
  wt := fun r hr c hc => by
    have hr' : r < 2 := hr
    have hc' : c < 2 := hc
    match r, hr', c, hc' with
    | 0, _, 0, _ => exact b1.cell 0
    | 0, _, 1, _ => exact b1.cell 2
    | 1, _, 0, _ => exact b2.cell 0
    | 1, _, 1, _ => exact b2.cell 2
  pt := fun r hr c hc => by
    have hr' : r < 2 := hr
    have hc' : c < 2 := hc
    match r, hr', c, hc' with
    | 0, _, 0, _ => exact b1.cell 1
    | 0, _, 1, _ => exact b1.cell 3
    | 1, _, 0, _ => exact b2.cell 1
    | 1, _, 1, _ => exact b2.cell 3
  rt := fun _ _ _ _ => ⟨⟨fun h => absurd h (Nat.lt_irrefl _), fun _ h => absurd h (Nat.not_lt_zero _), Nat.zero_le _⟩, fun h => absurd h (Nat.lt_irrefl _)⟩
  tall := by show 2 ≤ maxLen; unfold maxLen; omega
  lens := fun _ _ => by show 2 ≤ maxLen; unfold maxLen; omega

set_option maxHeartbeats 4000000 in
theorem pathBegun_any (w : World) :
    Calls Try.prog 39 #[] w fun e w' => e = .returned (.bool true) ∧ Below w.heap.size w w' := by
  obtain ⟨W1, hW1⟩ : ∃ W1, W1 = ((w.alloc (.cells #[.int .i64 2, .slice none 0 0, .int .i64 2, .slice none 0 0] 71)).alloc (.cells #[.int .i64 2, .slice none 0 0, .int .i64 2, .slice none 0 0] 71)).alloc (.cells #[.slice (some ⟨w.heap.size, 0, none⟩) 2 2, .slice (some ⟨w.heap.size + 1, 0, none⟩) 2 2] 94) := ⟨_, rfl⟩
  have hB1 : Below w.heap.size w W1 := by rw [hW1]; exact (((Below.refl _ w).alloc (Nat.le_refl _) _).alloc (by simp) _).alloc (by simp; omega) _
  have hlit : (litR w.heap.size).In W1.heap.size W1 := by
    rw [hW1]
    exact litR_in (((Blk.new w _ _).alloc _).alloc _) ((Blk.new' (by simp)).alloc _) (Blk.new' (by simp)) (by simp)
  have ht : (litR w.heap.size).t = ⟨2, fun _ => 2, noneZ⟩ := rfl
  have HB1 := hide hB1
  have Hlit := hide hlit
  have HW1 := hide hW1
  clear hB1 hlit hW1
  go_enter Try.func39, Try.ntmps39
  go_wp2_with fail
  rw [← HW1.out]
  clear HW1
  go_at_call 69
  refine (two_any _).mono ?_
  rintro e w1 ⟨⟨n1, rfl, hn1, hI1⟩, hb1⟩
  have HS := hide (pathSettle_ok n1 (litR w.heap.size) 10 w1 hI1 (Hlit.out.grown hb1) (by rw [hn1, ht]; exact two_pfit) (by omega))
  rw [hn1, ht, two_pcount] at HS
  have HB2 := hide (HB1.out.trans (hb1.mono HB1.out.size))
  have Hl2 := hide (Hlit.out.grown hb1)
  simp only [NetM.val, NetM.cells, Mat.val, RMat.val, litR] at HS ⊢
  clear hb1 hI1 HB1 Hlit
  go_wp2_with fail
  go_at_call 42
  refine HS.out.mono ?_
  rintro e w2 ⟨⟨y, rfl, hy⟩, hb2⟩
  have HB3 := hide (HB2.out.trans (hb2.mono HB2.out.size))
  have Hl3 := hide (Hl2.out.grown hb2)
  have HY := hide hy
  clear hb2 HB2 Hl2 hy HS
  go_wp2_with fail
  go_at_call 69
  refine (two_any _).mono ?_
  rintro e w3 ⟨⟨n3, rfl, hn3, hI3⟩, hb3⟩
  have HF := hide (pathFit_any n3 (litR w.heap.size) w3 hI3 (Hl3.out.grown hb3))
  rw [hn3, ht, two_pfit] at HF
  have HB4 := hide (HB3.out.trans (hb3.mono HB3.out.size))
  have HY4 := hide (HY.out.grown hb3)
  simp only [NetM.val, NetM.cells, Mat.val, RMat.val, litR] at HF ⊢
  clear hb3 HB3 Hl3 HY hI3
  go_wp2_with fail
  go_at_call 46
  refine HF.out.mono ?_
  rintro e w5 ⟨rfl, hb5⟩
  have hB5 := HB4.out.trans (hb5.mono HB4.out.size)
  have hY5 := HY4.out.grown hb5
  rw [two_N] at hY5
  have hL0 : y.L 0 = 2 := hY5.wide 0 (by omega)
  have hlen : y.len = 2 := hY5.len
  have hgl := hY5.mem.ga (by omega)
  obtain ⟨a0, a1, a2, a3⟩ := hY5.mem.at (r := 0) (c := 1) (by omega) (by omega)
  have a1' := hY5.mem.row 0 (by omega)
  rw [hL0] at a1
  have hBl : Below w5.heap.size w5 (w5.alloc (.cells #[.int .i64 0, .int .i64 1] 3)) := (Below.refl _ w5).alloc (Nat.le_refl _) _
  have bl := Blk.new w5 #[.int .i64 0, .int .i64 1] 3
  have HSr := hide (sameRoute_any (y.R 0 1) (RtM.mk 1 (some ⟨w5.heap.size, 0, none⟩) 2 2 w5.heap.size 0 (fun i => i)) (w5.alloc (.cells #[.int .i64 0, .int .i64 1] 3)) ((hY5.mem.rt 0 (by omega) 1 (by omega)).grown hBl) ⟨⟨fun _ => rfl, fun i hi => by
    have hi' : i < 2 := hi
    match i, hi' with
    | 0, _ => exact bl.cell 0
    | 1, _ => exact bl.cell 1, by show 2 ≤ maxLen; unfold maxLen; omega⟩, fun _ => bl.lt⟩)
  have hrs : (y.R 0 1).rt.same (RtM.mk 1 (some ⟨w5.heap.size, 0, none⟩) 2 2 w5.heap.size 0 (fun i => i)).rt = true := by
    rw [hY5.same 0 1 (by omega) (by omega)]
    exact two_pval
  rw [hrs] at HSr
  have HB6 := hide (hB5.trans (hBl.mono hB5.size))
  rw [Nat.add_zero] at a1 a1'
  rw [Nat.one_mul] at a2 a3
  simp only [RtM.val, RtM.cells] at HSr
  rw [hlen, hgl]
  clear hB5 hY5 hBl bl hrs a0 hlen hgl hb5 HB4 HY4 HF a1' hL0
  go_wp2_with fail
  go_at_call 101
  refine HSr.out.mono ?_
  rintro e w6 ⟨rfl, hb6⟩
  have HB7 := hide (HB6.out.trans (hb6.mono HB6.out.size))
  clear hb6 HSr a1 a2 a3
  go_wp2
  go_ret
  exact ⟨rfl, HB7.out⟩

set_option maxHeartbeats 1000000 in
/-- A route that is what it must be is told so. -/
theorem routeIs_yes (a b : RtM) (E : Int) (w : World) (ha : a.In w.heap.size w) (hb : b.In w.heap.size w) (h0 : E = 0 → a.rt = b.rt) (h1 : E ≠ 0 → a.rt = Rt.zero) :
    Calls Try.prog 40 #[a.val, .int .i64 E, .int .i64 E, b.val] w fun e w' => e = .returned (.bool true) ∧ Below w.heap.size w w' := by
  by_cases hE : E = 0
  · subst hE
    obtain ⟨W1, hW1⟩ : ∃ W1, W1 = (w.alloc (.cells a.cells 71)).alloc (.cells b.cells 71) := ⟨_, rfl⟩
    have hB1 : Below w.heap.size w W1 := by rw [hW1]; exact ((Below.refl _ w).alloc (Nat.le_refl _) _).alloc (by simp) _
    have HS := hide (sameRoute_any a b W1 (ha.grown hB1) (hb.grown hB1))
    rw [Rt.same_iff.2 (h0 rfl)] at HS
    have HB1 := hide hB1
    rw [hW1] at HS HB1
    simp only [RtM.val, RtM.cells] at HS HB1 ⊢
    clear hB1 hW1 ha hb h0 h1
    go_enter Try.func40, Try.ntmps40
    go_wp2_with fail
    go_at_call 101
    refine HS.out.mono ?_
    rintro e w2 ⟨rfl, hb2⟩
    have HB2 := hide (HB1.out.trans (hb2.mono HB1.out.size))
    clear HS HB1 hb2
    go_wp2
    go_ret
    exact ⟨rfl, HB2.out⟩
  · obtain ⟨W1, hW1⟩ : ∃ W1, W1 = (w.alloc (.cells a.cells 71)).alloc (.cells #[.int .i64 0, .slice none 0 0] 71) := ⟨_, rfl⟩
    have hB1 : Below w.heap.size w W1 := by rw [hW1]; exact ((Below.refl _ w).alloc (Nat.le_refl _) _).alloc (by simp) _
    have HS := hide (sameRoute_any a zeroR W1 (ha.grown hB1) (made_zero (lo := 0)).mem)
    rw [Rt.same_iff.2 (show a.rt = zeroR.rt from h1 hE)] at HS
    have hE' : (E != 0) = true := by simp [hE]
    have HB1 := hide hB1
    rw [hW1] at HS HB1
    simp only [RtM.val, RtM.cells, zeroR] at HS HB1 ⊢
    clear hB1 hW1 ha hb h0 h1 hE
    go_enter Try.func40, Try.ntmps40
    go_wp2_with fail
    go_at_call 101
    refine HS.out.mono ?_
    rintro e w2 ⟨rfl, hb2⟩
    have HB2 := hide (HB1.out.trans (hb2.mono HB1.out.size))
    clear HS HB1 hb2
    go_wp2
    go_ret
    exact ⟨rfl, HB2.out⟩

end Go.Proofs.Ytjhkadffaephmab
