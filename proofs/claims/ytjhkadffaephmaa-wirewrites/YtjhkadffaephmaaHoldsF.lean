/-
  algebra.Holds at a law: the rest.
-/
import Derived.Test.YtjhkadffaephmaaHoldsE
namespace Go.Proofs.Ytjhkadffaephmaa
open Go.RowKit

theorem Blk.set2 {W : World} {B : Nat} {t : TypeId} {u0 u1 : Value} (h : Blk W B #[u0, u1] t) (v0 v1 : Value) : Blk ((W.setCell ⟨B, 0, none⟩ v0).setCell ⟨B, 1, none⟩ v1) B #[v0, v1] t := by
  have := (h.set 0 v0).set 1 v1
  simpa using this

set_option maxHeartbeats 4000000 in
theorem holdsE_law (a : AlgM) (b : Brk) (w : World) (h : a.In w.heap.size w) (hc : a.alg.check = 0) (l0 : 1 ≤ b.law) (l1 : b.law ≤ 9) :
    Calls Try.prog 23 #[a.val, b.val] w fun e w' => e = .returned (.tuple #[.bool (if a.alg.fitsB b = false then false else a.alg.holds b), .int .i64 (if a.alg.fitsB b = false then 3 else 0)]) ∧ Below w.heap.size w w' := by
  have hb0 := fun o1 o2 => frame_below w o1 o2 0
  have hck := fun W (hI : a.In w.heap.size W) (hn : w.heap.size ≤ W.heap.size) => check_any a w.heap.size W hI hn
  rw [hc] at hck
  have HC := hide hck
  have hEl := h.E.len
  have CS := hide (fun W => span_law a b.law W hEl)
  have CH := hide (fun W => has_any (spanA a.alg b.law) (spanB a.alg b.law) (spanC a.alg b.law) (spanE a.alg b.law) b W)
  have CO := hide (fun (hf : a.alg.fitsB b = true) W (hI : a.In w.heap.size W) (hn : w.heap.size ≤ W.heap.size) => holds_any a (Alg.good_of_check hc) b (Alg.fits_of l0 l1 hf) w.heap.size W hI hn)
  have hff : ((decide (0 ≤ b.a) && decide (b.a < spanA a.alg b.law)) && (decide (0 ≤ b.b) && decide (b.b < spanB a.alg b.law)) && (decide (0 ≤ b.c) && decide (b.c < spanC a.alg b.law)) && (decide (0 ≤ b.e) && decide (b.e < spanE a.alg b.law))) = a.alg.fitsB b := rfl
  rw [hff] at CH
  generalize spanA a.alg b.law = sA at *
  generalize spanB a.alg b.law = sB at *
  generalize spanC a.alg b.law = sC at *
  generalize spanE a.alg b.law = sE at *
  generalize a.alg.fitsB b = fits at *
  generalize a.alg.holds b = hold at *
  obtain ⟨l, ba, bb, bc, be⟩ := b
  clear hck hc hEl hff
  simp only [AlgM.val, Brk.val] at *
  go_enter Try.func23, Try.ntmps23
  go_wp2_with fail
  go_at_call 22
  refine (HC.out _ (h.below (hb0 _ _) (Nat.le_refl _)) (by simp; omega)).mono ?_
  rintro e w1 ⟨rfl, hb1⟩
  have bA1 := keep2.below hb1 (by simp; omega)
  have bX1 := keep2'.below hb1 (by simp)
  have hB1 := hide ((hb0 _ _).trans (hb1.mono (by simp; omega)))
  have cX0 := bX1.cell 0
  simp at cX0
  have hs1 : w.heap.size + 1 < w1.heap.size := bX1.lt
  have cX1 : ∀ o, (w1.alloc o).cell? ⟨w.heap.size + 1, 0, none⟩ = some (.int .i64 l) := fun o => (bX1.alloc o).cell 0
  clear hb1
  go_wp2_with fail
  go_cut [7, 8] from 14 to 20 (fun s7 s8 wx => ∃ nb, s7 = .pointer (some ⟨nb, 0, none⟩) ∧ s8 = .bool true ∧ Hid (Blk wx nb #[.int .i64 (routesOf l), .int .i64 (edgesOf l)] 91) ∧ Hid (Below w1.heap.size w1 wx))
  case first =>
    go_region_with (go_at_call 61; refine (names_yes w1 _ l l0 l1 ?_).mono ?_; (first | exact below_dr w1 | exact below_dr' w1 _); rintro e w2 ⟨b, rfl, hl0, hl1, hb2, hbW⟩; (try (have nb := blk_pre hbW; have n0 := nb.cell 0; have n1 := nb.cell 1; have nf := nb.frozen; have nl := nb.lt; simp at n0 n1)); have bX2 := bX1.below hb2 bX1.lt; have hlt : w.heap.size + 1 < w2.heap.size := bX2.lt; have cX2 : w2.cell? ⟨w.heap.size + 1, 0, none⟩ = some (.int .i64 l) := bX2.cell 0; have cX3 : ∀ o, (w2.alloc o).cell? ⟨w.heap.size + 1, 0, none⟩ = some (.int .i64 l) := fun o => (bX2.alloc o).cell 0)
    all_goals
      go_wp2_with fail
      go_meet
    all_goals first
      | exact ⟨_, rfl, rfl, hide (Blk.new w2 _ _), hide (hb2.alloc hb2.size _)⟩
      | exact ⟨_, rfl, rfl, hide (nb.set2 _ _), hide ((hb2.setCell (p := ⟨w1.heap.size, 0, none⟩) (Nat.le_refl _) _).setCell (p := ⟨w1.heap.size, 1, none⟩) (Nat.le_refl _) _)⟩
  case rest =>
    obtain ⟨nb, rfl, rfl, BN, BB⟩ := hcut
    have bA2 := bA1.below BB.out bA1.lt
    have bX2 := bX1.below BB.out bX1.lt
    have hBw := hide (hB1.out.trans (BB.out.mono hB1.out.size))
    clear bA1 bX1 cX0 cX1 hs1 HC
    have cA0 := bA2.cell 0
    have cA1 := bA2.cell 1
    have cA2 := bA2.cell 2
    have cX0 := bX2.cell 0
    have cX1 := bX2.cell 1
    have cX2 := bX2.cell 2
    have cX3 := bX2.cell 3
    have cX4 := bX2.cell 4
    have cN0 := BN.out.cell 0
    have cN1 := BN.out.cell 1
    simp at cA0 cA1 cA2 cX0 cX1 cX2 cX3 cX4 cN0 cN1
    have hBs : w.heap.size ≤ wc.heap.size := hBw.out.size
    go_wp2_with fail
    go_cut [28] from 23 to 28 (fun s28 wx => s28 = .bool (!fits) ∧ Hid (Below wc.heap.size wc wx))
    case first =>
      go_region_with (first
        | (go_at_call 62; refine (CS.out _).mono ?_; rintro e w2 ⟨rfl, hb2⟩; have hb2' : Below wc.heap.size wc w2 := (below_dr wc).trans hb2; have bX3 := bX2.below hb2' bX2.lt; have dX0 := bX3.cell 0; have dX1 := bX3.cell 1; have dX2 := bX3.cell 2; have dX3 := bX3.cell 3; have dX4 := bX3.cell 4; simp at dX0 dX1 dX2 dX3 dX4)
        | (go_at_call 63; refine (CH.out _).mono ?_; rintro e w3 ⟨rfl, hb3⟩))
      all_goals
        go_wp2_with fail
        go_meet
      all_goals exact ⟨rfl, hide (hb2'.trans (hb3.mono hb2'.size))⟩
    case rest =>
      obtain ⟨rfl, BC⟩ := hcut
      clear cA0 cA1 cA2 cX0 cX1 cX2 cX3 cX4 cN0 cN1 CS CH BN
      have bA3 := bA2.below BC.out bA2.lt
      have bX3 := bX2.below BC.out bX2.lt
      have hBz := hide (hBw.out.trans (BC.out.mono hBw.out.size))
      cases fits
      · go_wp2
        go_ret2
        exact ⟨rfl, hBz.out⟩
      · have cA0 := bA3.cell 0
        have cA1 := bA3.cell 1
        have cA2 := bA3.cell 2
        have cX0 := bX3.cell 0
        have cX1 := bX3.cell 1
        have cX2 := bX3.cell 2
        have cX3 := bX3.cell 3
        have cX4 := bX3.cell 4
        simp at cA0 cA1 cA2 cX0 cX1 cX2 cX3 cX4
        have HO := hide (CO.out rfl _ (h.below hBz.out (Nat.le_refl _)) hBz.out.size)
        clear CO
        go_wp2_with fail
        go_at_call 64
        refine HO.out.mono ?_
        rintro e w5 ⟨rfl, hb5⟩
        have hBy := hide (hBz.out.trans (hb5.mono hBz.out.size))
        go_wp2
        go_ret2
        exact ⟨rfl, hBy.out⟩

end Go.Proofs.Ytjhkadffaephmaa
