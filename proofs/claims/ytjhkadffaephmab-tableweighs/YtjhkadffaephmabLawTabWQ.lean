/-
  TableWeighs.
-/
import Derived.Test.YtjhkadffaephmabBundleEA
import Derived.Test.YtjhkadffaephmabBundleDJ
namespace Go.Proofs.Ytjhkadffaephmab
set_option maxRecDepth 100000
open Go.RowKit

theorem tablePaths_any (n : NetM) (a b : Int) (w : World) (h : n.In w.heap.size w) :
    Calls Try.prog 59 #[n.val, .int .i64 a, .int .i64 b] w fun e w' => (∃ r : Int, e = .returned (.tuple #[.int .i64 r, .int .i64 (n.net.pathsErr a b)]) ∧ (n.net.pathsErr a b ≠ 0 → r = 0) ∧ (n.net.pathsErr a b = 0 → n.net.Least (Back a [b]) r)) ∧ Below w.heap.size w w' := by
  by_cases he : n.net.pathsErr a b = 0
  · have hck : n.net.check = 0 := by
      apply Classical.byContradiction
      intro hc
      unfold Net.pathsErr at he
      rw [if_pos hc] at he
      exact hc he
    have hav : n.net.areTwo a b = true := by
      cases e : n.net.areTwo a b with
      | true => rfl
      | false =>
        unfold Net.pathsErr at he
        rw [if_neg (by simp [hck]), if_pos e] at he
        cases he
    have g := Net.good_of_check hck
    have lo := g.lo
    have hnn : n.net.nodes = n.nodes := rfl
    unfold Net.areTwo at hav
    simp only [Bool.and_eq_true, decide_eq_true_eq] at hav
    obtain ⟨an, rfl⟩ : ∃ an : Nat, a = an := ⟨a.toNat, by omega⟩
    obtain ⟨bn, rfl⟩ : ∃ bn : Nat, b = bn := ⟨b.toNat, by omega⟩
    refine (tablePaths_ok n n.nodes.toNat an bn w h hck (by omega) (by omega) (by omega)).mono ?_
    rintro e w' ⟨⟨r, rfl, hr⟩, hb⟩
    exact ⟨⟨r, by rw [he], fun h => absurd he h, fun _ => hr⟩, hb⟩
  · refine (tablePaths_bad n a b w h he).mono ?_
    rintro e w' ⟨rfl, hb⟩
    exact ⟨⟨0, rfl, fun _ => rfl, fun h => absurd h he⟩, hb⟩

/-- So many nodes are gone through. -/
def WeI (l : Nat) (f : Nat → Int) (nodes : Int) (k : Nat) (z : Int) : Prop := (z = 0 ∧ k ≤ l ∧ ∀ j, j < k → 0 ≤ f j ∧ f j < nodes) ∨ (z = 5 ∧ k ≤ l ∧ 0 < k ∧ rowIn l f nodes = false)

set_option maxHeartbeats 16000000 in
theorem tableWeighs_any (n : NetM) (pa : Option Addr) (l q pb po : Nat) (f : Nat → Int) (a b : Int) (w : World) (h : n.In w.heap.size w) (hf : Ints pa l pb po f w) (hpb : 0 < l → pb < w.heap.size) (hq : l ≤ q) (hqm : q ≤ maxLen) :
    Calls Try.prog 11 #[n.val, .slice pa l q, .int .i64 a, .int .i64 b] w fun e w' => e = .returned (.bool true) ∧ Below w.heap.size w w' := by
  have hlen := hf.len
  unfold maxLen at hlen
  obtain ⟨W1, hW1⟩ : ∃ W1, W1 = w.alloc (.cells n.cells 41) := ⟨_, rfl⟩
  have hB0 : Below w.heap.size w W1 := by rw [hW1]; exact (Below.refl _ w).alloc (Nat.le_refl _) _
  have bn : Blk W1 w.heap.size n.cells 41 := by rw [hW1]; exact Blk.new w _ _
  have HWe := hide (fun (W : World) (hW : Below W1.heap.size W1 W) => tableWeigh_any n pa l q pb po f W ((h.grown hB0).grown hW) ((hf.below hB0 hpb).below hW (fun h0 => Nat.lt_of_lt_of_le (hpb h0) hB0.size)) (fun h0 => Nat.lt_of_lt_of_le (hpb h0) (Nat.le_trans hB0.size hW.size)))
  have HPa := hide (fun (W : World) (hW : Below W1.heap.size W1 W) => tablePaths_any n a b W ((h.grown hB0).grown hW))
  have HCk := hide (fun (W : World) (hW : Below W1.heap.size W1 W) => refNet_any n W ((h.grown hB0).grown hW))
  have Hwe : Hid (n.net.weighErr l f = if n.net.check ≠ 0 then n.net.check else if l = 0 then 1 else if rowIn l f n.nodes = false then 5 else if n.net.weigh (listOf l f) = none then 5 else 0) := hide rfl
  have Hwv : Hid (n.net.weighVal l f = if n.net.weighErr l f = 0 then (n.net.weigh (listOf l f)).getD 0 else 0) := hide rfl
  have Hpd : Hid (n.net.pathsErr a b = if n.net.check ≠ 0 then n.net.check else if n.net.areTwo a b = false then 5 else 0) := hide rfl
  have Hgood := hide (fun (hc : n.net.check = 0) => Net.good_of_check hc)
  have HWo := hide (fun (hc : n.net.check = 0) (m : Nat) (hm : l = m + 1) (W : World) (hW : Below W1.heap.size W1 W) => weighOf_any n hc m pa q pb po f W ((h.grown hB0).grown hW) (by rw [← hm]; exact (hf.below hB0 hpb).below hW (fun h0 => Nat.lt_of_lt_of_le (hpb h0) hB0.size)) (Nat.lt_of_lt_of_le (hpb (by omega)) (Nat.le_trans hB0.size hW.size)) (by omega) hqm)
  have HPo0 := hide (fun (hc : n.net.check = 0) (N an bn' : Nat) (hNn : n.nodes = N) (_ : a = an) (_ : b = bn') (haN : an < N) (_ : bn' < N) (W : World) (hW : Below W1.heap.size W1 W) => by
    have hba : Below W.heap.size W (W.alloc (.cells #[.int .i64 (an : Int)] 3)) := (Below.refl _ W).alloc (Nat.le_refl _) _
    have hl1 : listOf (0 + 1) (fun _ => (an : Int)) = [(an : Int)] := by rw [listOf_cons]; rfl
    have := pathsOf_any n N hNn hc bn' N 0 (some ⟨W.heap.size, 0, none⟩) 1 W.heap.size 0 (fun _ => (an : Int)) 0 (W.alloc (.cells #[.int .i64 (an : Int)] 3)) (((h.grown hB0).grown hW).grown hba) ⟨fun _ => rfl, fun i hi => by
      have : i = 0 := by omega
      subst this; simp, by unfold maxLen; omega⟩ (by simp) (by omega) (by unfold maxLen; omega) (by rw [hl1]; simp) (by rw [hl1]; intro c hc; rw [List.mem_singleton] at hc; omega) (by rw [hl1]; exact n.net.weigh_one _) (by omega)
    rw [hl1] at this
    exact this)
  have HB0 := hide hB0
  have Hbn := hide bn
  have HF := hide hf
  have Hpb := hide hpb
  have Hav : Hid (n.net.areTwo a b = true ↔ (decide (0 ≤ a) && decide (a ≤ n.nodes - 1)) = true ∧ (decide (0 ≤ b) && decide (b ≤ n.nodes - 1)) = true) := hide (by
    unfold Net.areTwo
    simp only [Bool.and_eq_true, decide_eq_true_eq]
    show (_ ∧ a < n.nodes) ∧ _ ∧ b < n.nodes ↔ _
    omega)
  have HBW1 : Hid (Below W1.heap.size W1 W1) := hide (Below.refl _ _)
  simp only [NetM.val, NetM.cells, Mat.val] at hW1 ⊢
  clear h hf hpb hB0 bn
  go_enter Try.func11, Try.ntmps11
  go_wp2_with fail
  go_at_call 49
  rw [← hW1]
  have HWe1 := hide (HWe.out W1 HBW1.out)
  simp only [NetM.val, NetM.cells, Mat.val] at HWe1
  refine HWe1.out.mono ?_
  rintro e w1 ⟨rfl, hb1⟩
  have HBw1 := hide hb1
  clear hb1 HWe1 HWe hW1 HBW1
  generalize n.net.weighErr l f = we at *
  generalize n.net.weighVal l f = wv at *
  have bNw1 := Hbn.out.below HBw1.out Hbn.out.lt
  have x0 := bNw1.cell 0
  have x1 := bNw1.cell 1
  have x2 := bNw1.cell 2
  have x3 := bNw1.cell 3
  have x4 := bNw1.cell 4
  simp [NetM.cells, Mat.val] at x0 x1 x2 x3 x4
  clear bNw1
  have HPa1 := hide (HPa.out w1 HBw1.out)
  simp only [NetM.val, NetM.cells, Mat.val] at HPa1
  go_wp2_with fail
  go_at_call 59
  refine HPa1.out.mono ?_
  rintro e w2 ⟨⟨pr, rfl, hpr0, hls0⟩, hb2⟩
  have HBw2 := hide (HBw1.out.trans (hb2.mono HBw1.out.size))
  generalize n.net.pathsErr a b = pe at *
  have Hpr0 := hide hpr0
  have Hls := hide hls0
  clear hb2 HPa1 HPa hpr0 hls0 x0 x1 x2 x3 x4
  have bNw2 := Hbn.out.below HBw2.out Hbn.out.lt
  have x0 := bNw2.cell 0
  have x1 := bNw2.cell 1
  have x2 := bNw2.cell 2
  have x3 := bNw2.cell 3
  have x4 := bNw2.cell 4
  simp [NetM.cells, Mat.val] at x0 x1 x2 x3 x4
  clear bNw2
  have HCk1 := hide (HCk.out w2 HBw2.out)
  simp only [NetM.val, NetM.cells, Mat.val] at HCk1
  generalize hckd : n.net.check = ck at *
  go_wp2_with fail
  go_at_call 34
  refine HCk1.out.mono ?_
  rintro e w3 ⟨rfl, hb3⟩
  have HBw3 := hide (HBw2.out.trans (hb3.mono HBw2.out.size))
  have hpe0 := Hpd.out
  have hwe0 := Hwe.out
  have hwv0 := Hwv.out
  clear hb3 HCk1 HCk x0 x1 x2 x3 x4 Hpd Hwe Hwv
  by_cases hc : ck = 0
  rotate_left
  · have hc' : (ck == 0) = false := by simp [hc]
    rw [if_pos hc] at hpe0 hwe0
    rw [hwe0, if_neg hc] at hwv0
    have hpr : pr = 0 := Hpr0.out (by rw [hpe0]; exact hc)
    rw [hpe0, hwe0, hwv0, hpr]
    clear hc Hgood HWo HPo0 Hav Hpr0 Hls hckd hpe0 hwe0 hwv0 hpr
    go_wp2_with fail
    go_loopw [13, 17] (fun v i wr => v = .int .i64 ck ∧ i = .int .i64 0 ∧ w3 = wr) (fun _ _ _ => 0)
    case atStart => exact ⟨rfl, rfl, rfl⟩
    case round =>
      obtain ⟨rfl, rfl, rfl⟩ := hrel
      by_cases hl0 : l = 0
      · subst hl0
        have HT := hide (tableBegun_any w3)
        have HBZ := hide (HB0.out.trans (HBw3.out.mono HB0.out.size))
        go_wp2_with fail
        go_at_call 48
        refine HT.out.mono ?_
        rintro e wz ⟨rfl, hbz⟩
        have HBE := hide (HBZ.out.trans (hbz.mono HBZ.out.size))
        clear hbz HT
        go_wp2
        go_ret
        exact ⟨rfl, HBE.out⟩
      · have hl0' : (0 : Int) < (l : Int) := by omega
        have HT := hide (tableBegun_any w3)
        have HBZ := hide (HB0.out.trans (HBw3.out.mono HB0.out.size))
        go_wp2_with fail
        go_at_call 48
        refine HT.out.mono ?_
        rintro e wz ⟨rfl, hbz⟩
        have HBE := hide (HBZ.out.trans (hbz.mono HBZ.out.size))
        clear hbz HT
        go_wp2
        go_ret
        exact ⟨rfl, HBE.out⟩
  subst hc
  have g := Hgood.out rfl
  have G := hide g
  have Hlo : Hid (1 ≤ n.nodes) := hide g.lo
  have Hhi : Hid (n.nodes ≤ 6) := hide g.hi
  have HPo := hide (HPo0.out rfl)
  have HWo1 := hide (HWo.out rfl)
  rw [if_neg (by simp)] at hpe0 hwe0
  have Hpe0 : Hid (n.net.areTwo a b = true → pe = 0) := hide (fun hv => by rw [hpe0, if_neg (by simp [hv])])
  have Hpe5 : Hid (n.net.areTwo a b = false → pe = 5) := hide (fun hv => by rw [hpe0, if_pos hv])
  have Hnat : Hid (n.net.areTwo a b = true → ∃ N an bn' : Nat, n.nodes = N ∧ a = an ∧ b = bn' ∧ an < N ∧ bn' < N) := hide (fun hv => by
    unfold Net.areTwo at hv
    simp only [Bool.and_eq_true, decide_eq_true_eq] at hv
    have hnn : n.net.nodes = n.nodes := rfl
    exact ⟨n.nodes.toNat, a.toNat, b.toNat, by omega, by omega, by omega, by omega, by omega⟩)
  clear Hgood HWo HPo0 hpe0 g hckd
  by_cases hl0 : l = 0
  · subst hl0
    rw [if_pos rfl] at hwe0
    rw [hwe0, if_neg (by decide)] at hwv0
    rw [hwe0, hwv0]
    clear HWo1 HF Hpb hwe0 hwv0
    go_wp2_with fail
    go_loopw [13, 17] (fun v i wr => v = .int .i64 1 ∧ i = .int .i64 0 ∧ w3 = wr) (fun _ _ _ => 0)
    case atStart => exact ⟨rfl, rfl, rfl⟩
    case round =>
      obtain ⟨rfl, rfl, rfl⟩ := hrel
      have bNw3 := Hbn.out.below HBw3.out Hbn.out.lt
      have x0 := bNw3.cell 0
      have x1 := bNw3.cell 1
      have x2 := bNw3.cell 2
      have x3 := bNw3.cell 3
      have x4 := bNw3.cell 4
      simp [NetM.cells, Mat.val] at x0 x1 x2 x3 x4
      clear bNw3
      by_cases ha : (decide (0 ≤ a) && decide (a ≤ n.nodes - 1)) = true
      · have HN1 := hide (isNode_any n a w3 Hlo.out Hhi.out)
        rw [ha] at HN1
        simp only [NetM.val, NetM.cells, Mat.val] at HN1
        go_wp2_with fail
        go_at_call 55
        refine HN1.out.mono ?_
        rintro e wa ⟨rfl, hwa⟩
        have HBwa : Hid (Below W1.heap.size W1 wa) := hide (by rw [hwa]; exact HBw3.out.alloc HBw3.out.size _)
        clear hwa HN1 x0 x1 x2 x3 x4
        have bNwa := Hbn.out.below HBwa.out Hbn.out.lt
        have x0 := bNwa.cell 0
        have x1 := bNwa.cell 1
        have x2 := bNwa.cell 2
        have x3 := bNwa.cell 3
        have x4 := bNwa.cell 4
        simp [NetM.cells, Mat.val] at x0 x1 x2 x3 x4
        clear bNwa
        by_cases hb : (decide (0 ≤ b) && decide (b ≤ n.nodes - 1)) = true
        · have HN2 := hide (isNode_any n b wa Hlo.out Hhi.out)
          rw [hb] at HN2
          simp only [NetM.val, NetM.cells, Mat.val] at HN2
          have hav := Hav.out.2 ⟨ha, hb⟩
          clear ha hb
          go_wp2_with fail
          go_at_call 55
          refine HN2.out.mono ?_
          rintro e wb ⟨rfl, hwb⟩
          have HBwb : Hid (Below W1.heap.size W1 wb) := hide (by rw [hwb]; exact HBwa.out.alloc HBwa.out.size _)
          clear hwb HN2 x0 x1 x2 x3 x4
          have bNwb := Hbn.out.below HBwb.out Hbn.out.lt
          have x0 := bNwb.cell 0
          have x1 := bNwb.cell 1
          have x2 := bNwb.cell 2
          have x3 := bNwb.cell 3
          have x4 := bNwb.cell 4
          simp [NetM.cells, Mat.val] at x0 x1 x2 x3 x4
          clear bNwb
          obtain ⟨N, an, bn', hNn, han, hbn', haN, hbN⟩ := Hnat.out hav
          have hpe : pe = 0 := Hpe0.out hav
          have hls := Hls.out hpe
          subst hpe
          have HP := hide (HPo.out N an bn' hNn han hbn' haN hbN wb HBwb.out)
          simp only [NetM.val, NetM.cells, Mat.val, ← han, ← hbn'] at HP
          have HBx := hide (HBwb.out.alloc HBwb.out.size (.cells #[.int .i64 a] 3))
          have Hls2 := hide hls
          clear hls hav han hbn' hNn haN hbN Hav Hpe0 Hpe5 Hpr0 Hls Hnat HPo
          go_wp2_with fail
          go_at_call 61
          refine HP.out.mono ?_
          rintro e wp ⟨⟨s, rfl, hs⟩, hbp⟩
          have hsr : (s : Int) = pr := by
            exact (n.net.back_forth G.out Hls2.out hs).symm
          have HBwp := hide (HBx.out.trans (hbp.mono HBx.out.size))
          rw [hsr]
          clear hsr hs hbp HP Hls2 HBx x0 x1 x2 x3 x4
          have HT := hide (tableBegun_any wp)
          have HBZ := hide (HB0.out.trans (HBwp.out.mono HB0.out.size))
          go_wp2_with fail
          go_at_call 48
          refine HT.out.mono ?_
          rintro e wz ⟨rfl, hbz⟩
          have HBE := hide (HBZ.out.trans (hbz.mono HBZ.out.size))
          clear hbz HT
          go_wp2
          go_ret
          exact ⟨rfl, HBE.out⟩
        · have hb' : (decide (0 ≤ b) && decide (b ≤ n.nodes - 1)) = false := by simpa using hb
          have HN2 := hide (isNode_any n b wa Hlo.out Hhi.out)
          rw [hb'] at HN2
          simp only [NetM.val, NetM.cells, Mat.val] at HN2
          have hav : n.net.areTwo a b = false := Bool.eq_false_iff.2 (fun h => hb (Hav.out.1 h).2)
          have hpe : pe = 5 := Hpe5.out hav
          have hpr : pr = 0 := Hpr0.out (by rw [hpe]; decide)
          subst hpe hpr
          clear ha hb hb' hav Hav Hpe0 Hpe5 Hpr0 Hls Hnat HPo
          go_wp2_with fail
          go_at_call 55
          refine HN2.out.mono ?_
          rintro e wb ⟨rfl, hwb⟩
          have HBwb : Hid (Below W1.heap.size W1 wb) := hide (by rw [hwb]; exact HBwa.out.alloc HBwa.out.size _)
          clear hwb HN2 x0 x1 x2 x3 x4
          have HT := hide (tableBegun_any wb)
          have HBZ := hide (HB0.out.trans (HBwb.out.mono HB0.out.size))
          go_wp2_with fail
          go_at_call 48
          refine HT.out.mono ?_
          rintro e wz ⟨rfl, hbz⟩
          have HBE := hide (HBZ.out.trans (hbz.mono HBZ.out.size))
          clear hbz HT
          go_wp2
          go_ret
          exact ⟨rfl, HBE.out⟩
      · have ha' : (decide (0 ≤ a) && decide (a ≤ n.nodes - 1)) = false := by simpa using ha
        have HN1 := hide (isNode_any n a w3 Hlo.out Hhi.out)
        rw [ha'] at HN1
        simp only [NetM.val, NetM.cells, Mat.val] at HN1
        have hav : n.net.areTwo a b = false := Bool.eq_false_iff.2 (fun h => ha (Hav.out.1 h).1)
        have hpe : pe = 5 := Hpe5.out hav
        have hpr : pr = 0 := Hpr0.out (by rw [hpe]; decide)
        subst hpe hpr
        clear ha ha' hav Hav Hpe0 Hpe5 Hpr0 Hls Hnat HPo
        go_wp2_with fail
        go_at_call 55
        refine HN1.out.mono ?_
        rintro e wa ⟨rfl, hwa⟩
        have HBwa : Hid (Below W1.heap.size W1 wa) := hide (by rw [hwa]; exact HBw3.out.alloc HBw3.out.size _)
        clear hwa HN1 x0 x1 x2 x3 x4
        have HT := hide (tableBegun_any wa)
        have HBZ := hide (HB0.out.trans (HBwa.out.mono HB0.out.size))
        go_wp2_with fail
        go_at_call 48
        refine HT.out.mono ?_
        rintro e wz ⟨rfl, hbz⟩
        have HBE := hide (HBZ.out.trans (hbz.mono HBZ.out.size))
        clear hbz HT
        go_wp2
        go_ret
        exact ⟨rfl, HBE.out⟩
  have hl0' : ((l : Int) == 0) = false := by simp; omega
  obtain ⟨m, hm⟩ : ∃ m, l = m + 1 := ⟨l - 1, by omega⟩
  have ha0 := HF.out.addr (by omega)
  subst ha0
  rw [if_neg hl0] at hwe0
  have HWo2 := hide (HWo1.out m hm)
  have Hm := hide hm
  have Hwe0 := hide hwe0
  have Hwv0 := hide hwv0
  clear hl0 HWo1 hm hwe0 hwv0
  go_wp2_with fail
  go_loopw [13, 17] (fun v i wr => ∃ (k : Nat) (z : Int), i = .int .i64 k ∧ v = .int .i64 z ∧ Hid (Below W1.heap.size W1 wr) ∧ Hid (WeI l f n.nodes k z)) (fun _ i _ => l + 1 - (intOf i).toNat)
  case atStart => exact ⟨0, 0, rfl, rfl, HBw3, hide (Or.inl ⟨rfl, Nat.zero_le _, fun j hj => absurd hj (Nat.not_lt_zero _)⟩)⟩
  case round =>
    obtain ⟨k, z, rfl, rfl, HBr, hcase⟩ := hrel
    rcases hcase.out with ⟨rfl, hk, hall⟩ | ⟨rfl, hk, hk0, hbad⟩
    · have Hall := hide hall
      clear hall hcase
      by_cases hlt : k < l
      · have hki : (k : Int) < (l : Int) := by omega
        have HNk := hide (fun (W : World) => isNode_any n (f k) W Hlo.out Hhi.out)
        generalize hvd : (decide (0 ≤ f k) && decide (f k ≤ n.nodes - 1)) = nd at *
        go_wp2_with fail
        refine wp_region_only (fun W => Below W1.heap.size W1 W)
          (valsE [n.val, .slice (some ⟨pb, po, none⟩) l q, .int .i64 k, .pointer (some ⟨pb, po + k, none⟩), .int .i64 (f k), .bool nd, .bool (!nd)])
          (by kernel_rfl) (by kernel_rfl) (by kernel_rfl) (below_drewN HBr.out 1) ⟨?_, ?_, ?_, ?_, ?_, ?_, ?_, trivial⟩ ?_
        rotate_right
        · intro t W hG hE
          have HG' := hide hG
          have e6 := valsE_get (hE 6 (by decide)) rfl
          clear hG hE
          simp only [fill, Act.put, List.setIfInBounds_toArray, List.set_cons_zero, List.set_cons_succ, e6]
          clear e6
          cases nd with
          | true =>
            have Hn : Hid (∀ j, j < k + 1 → 0 ≤ f j ∧ f j < n.nodes) := hide (fun j hj => by
              by_cases e : j = k
              · subst e
                simp only [Bool.and_eq_true, decide_eq_true_eq] at hvd
                omega
              · exact Hall.out j (by omega))
            clear hvd HNk
            go_wp2
            go_roundw
            case rel =>
              first
              | exact ⟨k + 1, 0, by go_num, rfl, HG', hide (Or.inl ⟨rfl, by omega, Hn.out⟩)⟩
              | ((repeat apply Exists.intro); refine ⟨?_, rfl⟩; exact ⟨k + 1, 0, by go_num, rfl, HG', hide (Or.inl ⟨rfl, by omega, Hn.out⟩)⟩)
            case measure => simp [intOf]; omega
          | false =>
            have Hn : Hid (rowIn l f n.nodes = false) := hide (by
              cases e : rowIn l f n.nodes with
              | false => rfl
              | true =>
                have := rowIn_iff.1 e k hlt
                simp only [Bool.and_eq_false_iff, decide_eq_false_iff_not] at hvd
                omega)
            clear hvd HNk
            go_wp2
            go_roundw
            case rel =>
              first
              | exact ⟨k + 1, 5, by go_num, rfl, HG', hide (Or.inr ⟨rfl, by omega, by omega, Hn.out⟩)⟩
              | ((repeat apply Exists.intro); refine ⟨?_, rfl⟩; exact ⟨k + 1, 5, by go_num, rfl, HG', hide (Or.inr ⟨rfl, by omega, by omega, Hn.out⟩)⟩)
            case measure => simp [intOf]; omega
        all_goals intro t W hG hp K hK
        all_goals simp only [fill, Act.put, List.setIfInBounds_toArray, List.set_cons_zero, List.set_cons_succ] at hK ⊢
        all_goals rw [if_pos (by rfl)]
        · have bN := Hbn.out.below hG Hbn.out.lt
          have x0 := bN.cell 0
          have x1 := bN.cell 1
          have x2 := bN.cell 2
          have x3 := bN.cell 3
          have x4 := bN.cell 4
          simp [NetM.cells, Mat.val] at x0 x1 x2 x3 x4
          go_simp
          exact hK _ W hG rfl (fun _ _ _ h => h)
        · go_simp
          exact hK _ W hG rfl (fun _ _ _ h => h)
        · go_simp
          exact hK _ W hG rfl (fun _ _ _ h => h)
        · have e1 := valsE_get (hp 1 (by decide)) rfl
          have e2 := valsE_get (hp 2 (by decide)) rfl
          simp only [e1, e2] at hK ⊢
          go_simp
          exact hK _ W hG rfl (fun _ _ _ h => h)
        · have e3 := valsE_get (hp 3 (by decide)) rfl
          have c0 := (HF.out.below (HB0.out.trans (hG.mono HB0.out.size)) Hpb.out).cell k hlt
          simp only [e3] at hK ⊢
          go_simp
          exact hK _ W hG rfl (fun _ _ _ h => h)
        · have e0 := valsE_get (hp 0 (by decide)) rfl
          have e4 := valsE_get (hp 4 (by decide)) rfl
          have HN' := hide (HNk.out W)
          simp only [NetM.val, NetM.cells, Mat.val] at e0 HN'
          simp only [e0, e4] at hK ⊢
          go_simp
          go_at_call 55
          refine HN'.out.mono ?_
          rintro e W' ⟨rfl, rfl⟩
          go_simp
          exact hK _ _ (hG.alloc hG.size _) rfl (fun _ _ _ h => h)
        · have e5 := valsE_get (hp 5 (by decide)) rfl
          simp only [e5] at hK ⊢
          go_simp
          exact hK _ W hG rfl (fun _ _ _ h => h)
      · have hkl : k = l := by omega
        have hki : (l : Int) ≤ (k : Int) := by omega
        have hrow : rowIn l f n.nodes = true := rowIn_iff.2 (fun j hj => Hall.out j (by omega))
        have hwe0 := Hwe0.out
        have hwv0 := Hwv0.out
        rw [if_neg (by simp [hrow])] at hwe0
        have Hwe1 := hide hwe0
        have Hwv1 := hide hwv0
        clear hwe0 hwv0
        have HWo3 := hide (HWo2.out wr HBr.out)
        rw [← Hm.out] at HWo3
        simp only [NetM.val, NetM.cells, Mat.val] at HWo3
        have bNr := Hbn.out.below HBr.out Hbn.out.lt
        have x0 := bNr.cell 0
        have x1 := bNr.cell 1
        have x2 := bNr.cell 2
        have x3 := bNr.cell 3
        have x4 := bNr.cell 4
        simp [NetM.cells, Mat.val] at x0 x1 x2 x3 x4
        clear bNr
        clear hkl hrow Hall HWo2
        go_wp2_with fail
        go_at_call 60
        refine HWo3.out.mono ?_
        rintro e w4 ⟨rfl, hb4⟩
        have HBw4 := hide (HBr.out.trans (hb4.mono HBr.out.size))
        clear hb4 HWo3 x0 x1 x2 x3 x4
        have hwe0 := Hwe1.out
        have hwv0 := Hwv1.out
        clear Hwe1 Hwv1
        cases hwd : n.net.weigh (listOf l f) with
        | none =>
          rw [hwd, if_pos rfl] at hwe0
          rw [hwe0, if_neg (by decide)] at hwv0
          have hb0 : n.net.wb (listOf l f) = false := by unfold Net.wb; rw [hwd]; rfl
          rw [hwe0, hwv0, hb0]
          clear hwe0 hwv0 hwd hb0
          have bNw4 := Hbn.out.below HBw4.out Hbn.out.lt
          have x0 := bNw4.cell 0
          have x1 := bNw4.cell 1
          have x2 := bNw4.cell 2
          have x3 := bNw4.cell 3
          have x4 := bNw4.cell 4
          simp [NetM.cells, Mat.val] at x0 x1 x2 x3 x4
          clear bNw4
          by_cases ha : (decide (0 ≤ a) && decide (a ≤ n.nodes - 1)) = true
          · have HN1 := hide (isNode_any n a w4 Hlo.out Hhi.out)
            rw [ha] at HN1
            simp only [NetM.val, NetM.cells, Mat.val] at HN1
            go_wp2_with fail
            go_at_call 55
            refine HN1.out.mono ?_
            rintro e wa ⟨rfl, hwa⟩
            have HBwa : Hid (Below W1.heap.size W1 wa) := hide (by rw [hwa]; exact HBw4.out.alloc HBw4.out.size _)
            clear hwa HN1 x0 x1 x2 x3 x4
            have bNwa := Hbn.out.below HBwa.out Hbn.out.lt
            have x0 := bNwa.cell 0
            have x1 := bNwa.cell 1
            have x2 := bNwa.cell 2
            have x3 := bNwa.cell 3
            have x4 := bNwa.cell 4
            simp [NetM.cells, Mat.val] at x0 x1 x2 x3 x4
            clear bNwa
            by_cases hb : (decide (0 ≤ b) && decide (b ≤ n.nodes - 1)) = true
            · have HN2 := hide (isNode_any n b wa Hlo.out Hhi.out)
              rw [hb] at HN2
              simp only [NetM.val, NetM.cells, Mat.val] at HN2
              have hav := Hav.out.2 ⟨ha, hb⟩
              clear ha hb
              go_wp2_with fail
              go_at_call 55
              refine HN2.out.mono ?_
              rintro e wb ⟨rfl, hwb⟩
              have HBwb : Hid (Below W1.heap.size W1 wb) := hide (by rw [hwb]; exact HBwa.out.alloc HBwa.out.size _)
              clear hwb HN2 x0 x1 x2 x3 x4
              have bNwb := Hbn.out.below HBwb.out Hbn.out.lt
              have x0 := bNwb.cell 0
              have x1 := bNwb.cell 1
              have x2 := bNwb.cell 2
              have x3 := bNwb.cell 3
              have x4 := bNwb.cell 4
              simp [NetM.cells, Mat.val] at x0 x1 x2 x3 x4
              clear bNwb
              obtain ⟨N, an, bn', hNn, han, hbn', haN, hbN⟩ := Hnat.out hav
              have hpe : pe = 0 := Hpe0.out hav
              have hls := Hls.out hpe
              subst hpe
              have HP := hide (HPo.out N an bn' hNn han hbn' haN hbN wb HBwb.out)
              simp only [NetM.val, NetM.cells, Mat.val, ← han, ← hbn'] at HP
              have HBx := hide (HBwb.out.alloc HBwb.out.size (.cells #[.int .i64 a] 3))
              have Hls2 := hide hls
              clear hls hav han hbn' hNn haN hbN Hav Hpe0 Hpe5 Hpr0 Hls Hnat HPo
              go_wp2_with fail
              go_at_call 61
              refine HP.out.mono ?_
              rintro e wp ⟨⟨s, rfl, hs⟩, hbp⟩
              have hsr : (s : Int) = pr := by
                exact (n.net.back_forth G.out Hls2.out hs).symm
              have HBwp := hide (HBx.out.trans (hbp.mono HBx.out.size))
              rw [hsr]
              clear hsr hs hbp HP Hls2 HBx x0 x1 x2 x3 x4
              have HT := hide (tableBegun_any wp)
              have HBZ := hide (HB0.out.trans (HBwp.out.mono HB0.out.size))
              go_wp2_with fail
              go_at_call 48
              refine HT.out.mono ?_
              rintro e wz ⟨rfl, hbz⟩
              have HBE := hide (HBZ.out.trans (hbz.mono HBZ.out.size))
              clear hbz HT
              go_wp2
              go_ret
              exact ⟨rfl, HBE.out⟩
            · have hb' : (decide (0 ≤ b) && decide (b ≤ n.nodes - 1)) = false := by simpa using hb
              have HN2 := hide (isNode_any n b wa Hlo.out Hhi.out)
              rw [hb'] at HN2
              simp only [NetM.val, NetM.cells, Mat.val] at HN2
              have hav : n.net.areTwo a b = false := Bool.eq_false_iff.2 (fun h => hb (Hav.out.1 h).2)
              have hpe : pe = 5 := Hpe5.out hav
              have hpr : pr = 0 := Hpr0.out (by rw [hpe]; decide)
              subst hpe hpr
              clear ha hb hb' hav Hav Hpe0 Hpe5 Hpr0 Hls Hnat HPo
              go_wp2_with fail
              go_at_call 55
              refine HN2.out.mono ?_
              rintro e wb ⟨rfl, hwb⟩
              have HBwb : Hid (Below W1.heap.size W1 wb) := hide (by rw [hwb]; exact HBwa.out.alloc HBwa.out.size _)
              clear hwb HN2 x0 x1 x2 x3 x4
              have HT := hide (tableBegun_any wb)
              have HBZ := hide (HB0.out.trans (HBwb.out.mono HB0.out.size))
              go_wp2_with fail
              go_at_call 48
              refine HT.out.mono ?_
              rintro e wz ⟨rfl, hbz⟩
              have HBE := hide (HBZ.out.trans (hbz.mono HBZ.out.size))
              clear hbz HT
              go_wp2
              go_ret
              exact ⟨rfl, HBE.out⟩
          · have ha' : (decide (0 ≤ a) && decide (a ≤ n.nodes - 1)) = false := by simpa using ha
            have HN1 := hide (isNode_any n a w4 Hlo.out Hhi.out)
            rw [ha'] at HN1
            simp only [NetM.val, NetM.cells, Mat.val] at HN1
            have hav : n.net.areTwo a b = false := Bool.eq_false_iff.2 (fun h => ha (Hav.out.1 h).1)
            have hpe : pe = 5 := Hpe5.out hav
            have hpr : pr = 0 := Hpr0.out (by rw [hpe]; decide)
            subst hpe hpr
            clear ha ha' hav Hav Hpe0 Hpe5 Hpr0 Hls Hnat HPo
            go_wp2_with fail
            go_at_call 55
            refine HN1.out.mono ?_
            rintro e wa ⟨rfl, hwa⟩
            have HBwa : Hid (Below W1.heap.size W1 wa) := hide (by rw [hwa]; exact HBw4.out.alloc HBw4.out.size _)
            clear hwa HN1 x0 x1 x2 x3 x4
            have HT := hide (tableBegun_any wa)
            have HBZ := hide (HB0.out.trans (HBwa.out.mono HB0.out.size))
            go_wp2_with fail
            go_at_call 48
            refine HT.out.mono ?_
            rintro e wz ⟨rfl, hbz⟩
            have HBE := hide (HBZ.out.trans (hbz.mono HBZ.out.size))
            clear hbz HT
            go_wp2
            go_ret
            exact ⟨rfl, HBE.out⟩
        | some u =>
          rw [hwd, if_neg (by simp)] at hwe0
          rw [hwe0, if_pos rfl, hwd] at hwv0
          have hb0 : n.net.wb (listOf l f) = true := by unfold Net.wb; rw [hwd]; rfl
          have hv0 : n.net.wv (listOf l f) = u := by unfold Net.wv; rw [hwd]; rfl
          have hwv1 : wv = u := hwv0
          rw [hwe0, hwv1, hb0, hv0]
          clear hwe0 hwv0 hwv1 hwd hb0 hv0
          have bNw4 := Hbn.out.below HBw4.out Hbn.out.lt
          have x0 := bNw4.cell 0
          have x1 := bNw4.cell 1
          have x2 := bNw4.cell 2
          have x3 := bNw4.cell 3
          have x4 := bNw4.cell 4
          simp [NetM.cells, Mat.val] at x0 x1 x2 x3 x4
          clear bNw4
          by_cases ha : (decide (0 ≤ a) && decide (a ≤ n.nodes - 1)) = true
          · have HN1 := hide (isNode_any n a w4 Hlo.out Hhi.out)
            rw [ha] at HN1
            simp only [NetM.val, NetM.cells, Mat.val] at HN1
            go_wp2_with fail
            go_at_call 55
            refine HN1.out.mono ?_
            rintro e wa ⟨rfl, hwa⟩
            have HBwa : Hid (Below W1.heap.size W1 wa) := hide (by rw [hwa]; exact HBw4.out.alloc HBw4.out.size _)
            clear hwa HN1 x0 x1 x2 x3 x4
            have bNwa := Hbn.out.below HBwa.out Hbn.out.lt
            have x0 := bNwa.cell 0
            have x1 := bNwa.cell 1
            have x2 := bNwa.cell 2
            have x3 := bNwa.cell 3
            have x4 := bNwa.cell 4
            simp [NetM.cells, Mat.val] at x0 x1 x2 x3 x4
            clear bNwa
            by_cases hb : (decide (0 ≤ b) && decide (b ≤ n.nodes - 1)) = true
            · have HN2 := hide (isNode_any n b wa Hlo.out Hhi.out)
              rw [hb] at HN2
              simp only [NetM.val, NetM.cells, Mat.val] at HN2
              have hav := Hav.out.2 ⟨ha, hb⟩
              clear ha hb
              go_wp2_with fail
              go_at_call 55
              refine HN2.out.mono ?_
              rintro e wb ⟨rfl, hwb⟩
              have HBwb : Hid (Below W1.heap.size W1 wb) := hide (by rw [hwb]; exact HBwa.out.alloc HBwa.out.size _)
              clear hwb HN2 x0 x1 x2 x3 x4
              have bNwb := Hbn.out.below HBwb.out Hbn.out.lt
              have x0 := bNwb.cell 0
              have x1 := bNwb.cell 1
              have x2 := bNwb.cell 2
              have x3 := bNwb.cell 3
              have x4 := bNwb.cell 4
              simp [NetM.cells, Mat.val] at x0 x1 x2 x3 x4
              clear bNwb
              obtain ⟨N, an, bn', hNn, han, hbn', haN, hbN⟩ := Hnat.out hav
              have hpe : pe = 0 := Hpe0.out hav
              have hls := Hls.out hpe
              subst hpe
              have HP := hide (HPo.out N an bn' hNn han hbn' haN hbN wb HBwb.out)
              simp only [NetM.val, NetM.cells, Mat.val, ← han, ← hbn'] at HP
              have HBx := hide (HBwb.out.alloc HBwb.out.size (.cells #[.int .i64 a] 3))
              have Hls2 := hide hls
              clear hls hav han hbn' hNn haN hbN Hav Hpe0 Hpe5 Hpr0 Hls Hnat HPo
              go_wp2_with fail
              go_at_call 61
              refine HP.out.mono ?_
              rintro e wp ⟨⟨s, rfl, hs⟩, hbp⟩
              have hsr : (s : Int) = pr := by
                exact (n.net.back_forth G.out Hls2.out hs).symm
              have HBwp := hide (HBx.out.trans (hbp.mono HBx.out.size))
              rw [hsr]
              clear hsr hs hbp HP Hls2 HBx x0 x1 x2 x3 x4
              have HT := hide (tableBegun_any wp)
              have HBZ := hide (HB0.out.trans (HBwp.out.mono HB0.out.size))
              go_wp2_with fail
              go_at_call 48
              refine HT.out.mono ?_
              rintro e wz ⟨rfl, hbz⟩
              have HBE := hide (HBZ.out.trans (hbz.mono HBZ.out.size))
              clear hbz HT
              go_wp2
              go_ret
              exact ⟨rfl, HBE.out⟩
            · have hb' : (decide (0 ≤ b) && decide (b ≤ n.nodes - 1)) = false := by simpa using hb
              have HN2 := hide (isNode_any n b wa Hlo.out Hhi.out)
              rw [hb'] at HN2
              simp only [NetM.val, NetM.cells, Mat.val] at HN2
              have hav : n.net.areTwo a b = false := Bool.eq_false_iff.2 (fun h => hb (Hav.out.1 h).2)
              have hpe : pe = 5 := Hpe5.out hav
              have hpr : pr = 0 := Hpr0.out (by rw [hpe]; decide)
              subst hpe hpr
              clear ha hb hb' hav Hav Hpe0 Hpe5 Hpr0 Hls Hnat HPo
              go_wp2_with fail
              go_at_call 55
              refine HN2.out.mono ?_
              rintro e wb ⟨rfl, hwb⟩
              have HBwb : Hid (Below W1.heap.size W1 wb) := hide (by rw [hwb]; exact HBwa.out.alloc HBwa.out.size _)
              clear hwb HN2 x0 x1 x2 x3 x4
              have HT := hide (tableBegun_any wb)
              have HBZ := hide (HB0.out.trans (HBwb.out.mono HB0.out.size))
              go_wp2_with fail
              go_at_call 48
              refine HT.out.mono ?_
              rintro e wz ⟨rfl, hbz⟩
              have HBE := hide (HBZ.out.trans (hbz.mono HBZ.out.size))
              clear hbz HT
              go_wp2
              go_ret
              exact ⟨rfl, HBE.out⟩
          · have ha' : (decide (0 ≤ a) && decide (a ≤ n.nodes - 1)) = false := by simpa using ha
            have HN1 := hide (isNode_any n a w4 Hlo.out Hhi.out)
            rw [ha'] at HN1
            simp only [NetM.val, NetM.cells, Mat.val] at HN1
            have hav : n.net.areTwo a b = false := Bool.eq_false_iff.2 (fun h => ha (Hav.out.1 h).1)
            have hpe : pe = 5 := Hpe5.out hav
            have hpr : pr = 0 := Hpr0.out (by rw [hpe]; decide)
            subst hpe hpr
            clear ha ha' hav Hav Hpe0 Hpe5 Hpr0 Hls Hnat HPo
            go_wp2_with fail
            go_at_call 55
            refine HN1.out.mono ?_
            rintro e wa ⟨rfl, hwa⟩
            have HBwa : Hid (Below W1.heap.size W1 wa) := hide (by rw [hwa]; exact HBw4.out.alloc HBw4.out.size _)
            clear hwa HN1 x0 x1 x2 x3 x4
            have HT := hide (tableBegun_any wa)
            have HBZ := hide (HB0.out.trans (HBwa.out.mono HB0.out.size))
            go_wp2_with fail
            go_at_call 48
            refine HT.out.mono ?_
            rintro e wz ⟨rfl, hbz⟩
            have HBE := hide (HBZ.out.trans (hbz.mono HBZ.out.size))
            clear hbz HT
            go_wp2
            go_ret
            exact ⟨rfl, HBE.out⟩
    · have Hbad := hide hbad
      clear hbad hcase
      have hwe0 := Hwe0.out
      have hwv0 := Hwv0.out
      rw [if_pos Hbad.out] at hwe0
      rw [hwe0, if_neg (by decide)] at hwv0
      have hki : (0 : Int) < (k : Int) := by omega
      rw [hwe0, hwv0]
      clear hwe0 hwv0 Hbad HWo2
      by_cases hkl : k < l
      · have hkl' : (k : Int) < (l : Int) := by omega
        have bNr := Hbn.out.below HBr.out Hbn.out.lt
        have x0 := bNr.cell 0
        have x1 := bNr.cell 1
        have x2 := bNr.cell 2
        have x3 := bNr.cell 3
        have x4 := bNr.cell 4
        simp [NetM.cells, Mat.val] at x0 x1 x2 x3 x4
        clear bNr
        by_cases ha : (decide (0 ≤ a) && decide (a ≤ n.nodes - 1)) = true
        · have HN1 := hide (isNode_any n a wr Hlo.out Hhi.out)
          rw [ha] at HN1
          simp only [NetM.val, NetM.cells, Mat.val] at HN1
          go_wp2_with fail
          go_at_call 55
          refine HN1.out.mono ?_
          rintro e wa ⟨rfl, hwa⟩
          have HBwa : Hid (Below W1.heap.size W1 wa) := hide (by rw [hwa]; exact HBr.out.alloc HBr.out.size _)
          clear hwa HN1 x0 x1 x2 x3 x4
          have bNwa := Hbn.out.below HBwa.out Hbn.out.lt
          have x0 := bNwa.cell 0
          have x1 := bNwa.cell 1
          have x2 := bNwa.cell 2
          have x3 := bNwa.cell 3
          have x4 := bNwa.cell 4
          simp [NetM.cells, Mat.val] at x0 x1 x2 x3 x4
          clear bNwa
          by_cases hb : (decide (0 ≤ b) && decide (b ≤ n.nodes - 1)) = true
          · have HN2 := hide (isNode_any n b wa Hlo.out Hhi.out)
            rw [hb] at HN2
            simp only [NetM.val, NetM.cells, Mat.val] at HN2
            have hav := Hav.out.2 ⟨ha, hb⟩
            clear ha hb
            go_wp2_with fail
            go_at_call 55
            refine HN2.out.mono ?_
            rintro e wb ⟨rfl, hwb⟩
            have HBwb : Hid (Below W1.heap.size W1 wb) := hide (by rw [hwb]; exact HBwa.out.alloc HBwa.out.size _)
            clear hwb HN2 x0 x1 x2 x3 x4
            have bNwb := Hbn.out.below HBwb.out Hbn.out.lt
            have x0 := bNwb.cell 0
            have x1 := bNwb.cell 1
            have x2 := bNwb.cell 2
            have x3 := bNwb.cell 3
            have x4 := bNwb.cell 4
            simp [NetM.cells, Mat.val] at x0 x1 x2 x3 x4
            clear bNwb
            obtain ⟨N, an, bn', hNn, han, hbn', haN, hbN⟩ := Hnat.out hav
            have hpe : pe = 0 := Hpe0.out hav
            have hls := Hls.out hpe
            subst hpe
            have HP := hide (HPo.out N an bn' hNn han hbn' haN hbN wb HBwb.out)
            simp only [NetM.val, NetM.cells, Mat.val, ← han, ← hbn'] at HP
            have HBx := hide (HBwb.out.alloc HBwb.out.size (.cells #[.int .i64 a] 3))
            have Hls2 := hide hls
            clear hls hav han hbn' hNn haN hbN Hav Hpe0 Hpe5 Hpr0 Hls Hnat HPo
            go_wp2_with fail
            go_at_call 61
            refine HP.out.mono ?_
            rintro e wp ⟨⟨s, rfl, hs⟩, hbp⟩
            have hsr : (s : Int) = pr := by
              exact (n.net.back_forth G.out Hls2.out hs).symm
            have HBwp := hide (HBx.out.trans (hbp.mono HBx.out.size))
            rw [hsr]
            clear hsr hs hbp HP Hls2 HBx x0 x1 x2 x3 x4
            have HT := hide (tableBegun_any wp)
            have HBZ := hide (HB0.out.trans (HBwp.out.mono HB0.out.size))
            go_wp2_with fail
            go_at_call 48
            refine HT.out.mono ?_
            rintro e wz ⟨rfl, hbz⟩
            have HBE := hide (HBZ.out.trans (hbz.mono HBZ.out.size))
            clear hbz HT
            go_wp2
            go_ret
            exact ⟨rfl, HBE.out⟩
          · have hb' : (decide (0 ≤ b) && decide (b ≤ n.nodes - 1)) = false := by simpa using hb
            have HN2 := hide (isNode_any n b wa Hlo.out Hhi.out)
            rw [hb'] at HN2
            simp only [NetM.val, NetM.cells, Mat.val] at HN2
            have hav : n.net.areTwo a b = false := Bool.eq_false_iff.2 (fun h => hb (Hav.out.1 h).2)
            have hpe : pe = 5 := Hpe5.out hav
            have hpr : pr = 0 := Hpr0.out (by rw [hpe]; decide)
            subst hpe hpr
            clear ha hb hb' hav Hav Hpe0 Hpe5 Hpr0 Hls Hnat HPo
            go_wp2_with fail
            go_at_call 55
            refine HN2.out.mono ?_
            rintro e wb ⟨rfl, hwb⟩
            have HBwb : Hid (Below W1.heap.size W1 wb) := hide (by rw [hwb]; exact HBwa.out.alloc HBwa.out.size _)
            clear hwb HN2 x0 x1 x2 x3 x4
            have HT := hide (tableBegun_any wb)
            have HBZ := hide (HB0.out.trans (HBwb.out.mono HB0.out.size))
            go_wp2_with fail
            go_at_call 48
            refine HT.out.mono ?_
            rintro e wz ⟨rfl, hbz⟩
            have HBE := hide (HBZ.out.trans (hbz.mono HBZ.out.size))
            clear hbz HT
            go_wp2
            go_ret
            exact ⟨rfl, HBE.out⟩
        · have ha' : (decide (0 ≤ a) && decide (a ≤ n.nodes - 1)) = false := by simpa using ha
          have HN1 := hide (isNode_any n a wr Hlo.out Hhi.out)
          rw [ha'] at HN1
          simp only [NetM.val, NetM.cells, Mat.val] at HN1
          have hav : n.net.areTwo a b = false := Bool.eq_false_iff.2 (fun h => ha (Hav.out.1 h).1)
          have hpe : pe = 5 := Hpe5.out hav
          have hpr : pr = 0 := Hpr0.out (by rw [hpe]; decide)
          subst hpe hpr
          clear ha ha' hav Hav Hpe0 Hpe5 Hpr0 Hls Hnat HPo
          go_wp2_with fail
          go_at_call 55
          refine HN1.out.mono ?_
          rintro e wa ⟨rfl, hwa⟩
          have HBwa : Hid (Below W1.heap.size W1 wa) := hide (by rw [hwa]; exact HBr.out.alloc HBr.out.size _)
          clear hwa HN1 x0 x1 x2 x3 x4
          have HT := hide (tableBegun_any wa)
          have HBZ := hide (HB0.out.trans (HBwa.out.mono HB0.out.size))
          go_wp2_with fail
          go_at_call 48
          refine HT.out.mono ?_
          rintro e wz ⟨rfl, hbz⟩
          have HBE := hide (HBZ.out.trans (hbz.mono HBZ.out.size))
          clear hbz HT
          go_wp2
          go_ret
          exact ⟨rfl, HBE.out⟩
      · have hkl' : (l : Int) ≤ (k : Int) := by omega
        have bNr := Hbn.out.below HBr.out Hbn.out.lt
        have x0 := bNr.cell 0
        have x1 := bNr.cell 1
        have x2 := bNr.cell 2
        have x3 := bNr.cell 3
        have x4 := bNr.cell 4
        simp [NetM.cells, Mat.val] at x0 x1 x2 x3 x4
        clear bNr
        by_cases ha : (decide (0 ≤ a) && decide (a ≤ n.nodes - 1)) = true
        · have HN1 := hide (isNode_any n a wr Hlo.out Hhi.out)
          rw [ha] at HN1
          simp only [NetM.val, NetM.cells, Mat.val] at HN1
          go_wp2_with fail
          go_at_call 55
          refine HN1.out.mono ?_
          rintro e wa ⟨rfl, hwa⟩
          have HBwa : Hid (Below W1.heap.size W1 wa) := hide (by rw [hwa]; exact HBr.out.alloc HBr.out.size _)
          clear hwa HN1 x0 x1 x2 x3 x4
          have bNwa := Hbn.out.below HBwa.out Hbn.out.lt
          have x0 := bNwa.cell 0
          have x1 := bNwa.cell 1
          have x2 := bNwa.cell 2
          have x3 := bNwa.cell 3
          have x4 := bNwa.cell 4
          simp [NetM.cells, Mat.val] at x0 x1 x2 x3 x4
          clear bNwa
          by_cases hb : (decide (0 ≤ b) && decide (b ≤ n.nodes - 1)) = true
          · have HN2 := hide (isNode_any n b wa Hlo.out Hhi.out)
            rw [hb] at HN2
            simp only [NetM.val, NetM.cells, Mat.val] at HN2
            have hav := Hav.out.2 ⟨ha, hb⟩
            clear ha hb
            go_wp2_with fail
            go_at_call 55
            refine HN2.out.mono ?_
            rintro e wb ⟨rfl, hwb⟩
            have HBwb : Hid (Below W1.heap.size W1 wb) := hide (by rw [hwb]; exact HBwa.out.alloc HBwa.out.size _)
            clear hwb HN2 x0 x1 x2 x3 x4
            have bNwb := Hbn.out.below HBwb.out Hbn.out.lt
            have x0 := bNwb.cell 0
            have x1 := bNwb.cell 1
            have x2 := bNwb.cell 2
            have x3 := bNwb.cell 3
            have x4 := bNwb.cell 4
            simp [NetM.cells, Mat.val] at x0 x1 x2 x3 x4
            clear bNwb
            obtain ⟨N, an, bn', hNn, han, hbn', haN, hbN⟩ := Hnat.out hav
            have hpe : pe = 0 := Hpe0.out hav
            have hls := Hls.out hpe
            subst hpe
            have HP := hide (HPo.out N an bn' hNn han hbn' haN hbN wb HBwb.out)
            simp only [NetM.val, NetM.cells, Mat.val, ← han, ← hbn'] at HP
            have HBx := hide (HBwb.out.alloc HBwb.out.size (.cells #[.int .i64 a] 3))
            have Hls2 := hide hls
            clear hls hav han hbn' hNn haN hbN Hav Hpe0 Hpe5 Hpr0 Hls Hnat HPo
            go_wp2_with fail
            go_at_call 61
            refine HP.out.mono ?_
            rintro e wp ⟨⟨s, rfl, hs⟩, hbp⟩
            have hsr : (s : Int) = pr := by
              exact (n.net.back_forth G.out Hls2.out hs).symm
            have HBwp := hide (HBx.out.trans (hbp.mono HBx.out.size))
            rw [hsr]
            clear hsr hs hbp HP Hls2 HBx x0 x1 x2 x3 x4
            have HT := hide (tableBegun_any wp)
            have HBZ := hide (HB0.out.trans (HBwp.out.mono HB0.out.size))
            go_wp2_with fail
            go_at_call 48
            refine HT.out.mono ?_
            rintro e wz ⟨rfl, hbz⟩
            have HBE := hide (HBZ.out.trans (hbz.mono HBZ.out.size))
            clear hbz HT
            go_wp2
            go_ret
            exact ⟨rfl, HBE.out⟩
          · have hb' : (decide (0 ≤ b) && decide (b ≤ n.nodes - 1)) = false := by simpa using hb
            have HN2 := hide (isNode_any n b wa Hlo.out Hhi.out)
            rw [hb'] at HN2
            simp only [NetM.val, NetM.cells, Mat.val] at HN2
            have hav : n.net.areTwo a b = false := Bool.eq_false_iff.2 (fun h => hb (Hav.out.1 h).2)
            have hpe : pe = 5 := Hpe5.out hav
            have hpr : pr = 0 := Hpr0.out (by rw [hpe]; decide)
            subst hpe hpr
            clear ha hb hb' hav Hav Hpe0 Hpe5 Hpr0 Hls Hnat HPo
            go_wp2_with fail
            go_at_call 55
            refine HN2.out.mono ?_
            rintro e wb ⟨rfl, hwb⟩
            have HBwb : Hid (Below W1.heap.size W1 wb) := hide (by rw [hwb]; exact HBwa.out.alloc HBwa.out.size _)
            clear hwb HN2 x0 x1 x2 x3 x4
            have HT := hide (tableBegun_any wb)
            have HBZ := hide (HB0.out.trans (HBwb.out.mono HB0.out.size))
            go_wp2_with fail
            go_at_call 48
            refine HT.out.mono ?_
            rintro e wz ⟨rfl, hbz⟩
            have HBE := hide (HBZ.out.trans (hbz.mono HBZ.out.size))
            clear hbz HT
            go_wp2
            go_ret
            exact ⟨rfl, HBE.out⟩
        · have ha' : (decide (0 ≤ a) && decide (a ≤ n.nodes - 1)) = false := by simpa using ha
          have HN1 := hide (isNode_any n a wr Hlo.out Hhi.out)
          rw [ha'] at HN1
          simp only [NetM.val, NetM.cells, Mat.val] at HN1
          have hav : n.net.areTwo a b = false := Bool.eq_false_iff.2 (fun h => ha (Hav.out.1 h).1)
          have hpe : pe = 5 := Hpe5.out hav
          have hpr : pr = 0 := Hpr0.out (by rw [hpe]; decide)
          subst hpe hpr
          clear ha ha' hav Hav Hpe0 Hpe5 Hpr0 Hls Hnat HPo
          go_wp2_with fail
          go_at_call 55
          refine HN1.out.mono ?_
          rintro e wa ⟨rfl, hwa⟩
          have HBwa : Hid (Below W1.heap.size W1 wa) := hide (by rw [hwa]; exact HBr.out.alloc HBr.out.size _)
          clear hwa HN1 x0 x1 x2 x3 x4
          have HT := hide (tableBegun_any wa)
          have HBZ := hide (HB0.out.trans (HBwa.out.mono HB0.out.size))
          go_wp2_with fail
          go_at_call 48
          refine HT.out.mono ?_
          rintro e wz ⟨rfl, hbz⟩
          have HBE := hide (HBZ.out.trans (hbz.mono HBZ.out.size))
          clear hbz HT
          go_wp2
          go_ret
          exact ⟨rfl, HBE.out⟩

end Go.Proofs.Ytjhkadffaephmab
