/-
  signpostlaw.TableTells: the walk.
-/
import Derived.Test.YtjhkadffaephmabBundleEC
import Derived.Test.YtjhkadffaephmabBundleED
import Derived.Test.YtjhkadffaephmabBundleEA
import Derived.Test.YtjhkadffaephmabBundleBJ
namespace Go.Proofs.Ytjhkadffaephmab
set_option maxRecDepth 100000
open Go.RowKit

/-- What a walk tells. -/
def Net.walkRes (n : Net) (t : Tab) (a b : Int) : List Int × Bool := if n.walkErr t a b = 0 then walkOf (fun c => t.Z c.toNat b.toNat) b (n.N + 1) [] a else ([], false)

theorem ints_of_owns {W : World} {C : Nat} {v : Value} {l : List Int} (h : W.ownsRow C 3 1 v l.length (intV l)) : ∃ a q b o, v = .slice a l.length q ∧ Ints a l.length b o (fun i => l.getD i 0) W := by
  cases l with
  | nil =>
    rcases h.2 with ⟨rfl, _⟩ | ⟨g, cap, cur, rfl, _⟩
    · exact ⟨none, 0, 0, 0, rfl, ⟨fun h => absurd h (Nat.not_lt_zero _), fun i hi => absurd hi (Nat.not_lt_zero _), by unfold maxLen; simp⟩⟩
    · exact ⟨some ⟨g, 0, none⟩, cap, g, 0, rfl, ⟨fun _ => rfl, fun i hi => absurd hi (Nat.not_lt_zero _), by unfold maxLen; simp⟩⟩
  | cons c l =>
    obtain ⟨g, cap, hv, hI, _⟩ := owns_ints (l := l.length) h rfl
    exact ⟨some ⟨g, 0, none⟩, cap, g, 0, hv, hI⟩
theorem sameOwn_any {W : World} {C C' : Nat} {v v' : Value} {l : List Int} (h : W.ownsRow C 3 1 v l.length (intV l)) (h' : W.ownsRow C' 3 1 v' l.length (intV l)) :
    Calls Try.prog 58 #[v, v'] W fun e w' => e = .returned (.bool true) ∧ ∃ m, w' = W.drewN m := by
  obtain ⟨a1, q1, g1, o1, rfl, i1⟩ := ints_of_owns h
  obtain ⟨a2, q2, g2, o2, rfl, i2⟩ := ints_of_owns h'
  have := sameInts_any a1 a2 l.length l.length q1 q2 g1 o1 g2 o2 _ _ W i1 i2
  rw [sameInts_iff.2 ⟨rfl, fun _ _ => rfl⟩] at this
  exact this

theorem Net.areTwo_iff {n : Net} {a b : Int} : n.areTwo a b = true ↔ (0 ≤ a ∧ a < n.nodes) ∧ (0 ≤ b ∧ b < n.nodes) := by
  unfold Net.areTwo
  simp
theorem Net.check_of_tabErr {n : Net} {t : Tab} (he : n.tabErr t = 0) : n.check = 0 := by
  apply Classical.byContradiction
  intro hc
  unfold Net.tabErr at he
  rw [if_pos hc] at he
  exact hc he
theorem Net.walkErr_zero {n : Net} {t : Tab} {a b : Int} (h : n.walkErr t a b = 0) : n.tabErr t = 0 ∧ n.areTwo a b = true := by
  unfold Net.walkErr at h
  by_cases he : n.tabErr t = 0
  · rw [if_neg (by simp [he])] at h
    cases e : n.areTwo a b with
    | true => exact ⟨he, rfl⟩
    | false => rw [e] at h; cases h
  · rw [if_pos he] at h; exact absurd h he
/-- A table that is right. -/
theorem Net.tab_of_tabErr {n : Net} {t : Tab} (he : n.tabErr t = 0) : t.len = n.N ∧ (∀ r, r < n.N → t.L r = n.N) ∧ ∀ r, r < n.N → ∀ c, c < n.N → t.Z r c = -1 ∨ (0 ≤ t.Z r c ∧ t.Z r c < (n.N : Int)) := by
  have hck := Net.check_of_tabErr he
  have g := Net.good_of_check hck
  have lo := g.lo
  have he1 : ¬ ((t.len : Int) ≠ n.nodes ∨ t.wide n.nodes = false) := fun hc => by
    unfold Net.tabErr at he
    rw [if_neg (by simp [hck]), if_pos hc] at he
    cases he
  have he2 : t.stray n.nodes = false := by
    cases e : t.stray n.nodes with
    | false => rfl
    | true =>
      unfold Net.tabErr at he
      rw [if_neg (by simp [hck]), if_neg he1, if_pos e] at he
      cases he
  have hN : ((n.N : Nat) : Int) = n.nodes := by unfold Net.N; omega
  have hlen : t.len = n.N := by
    have : (t.len : Int) = n.nodes := Classical.byContradiction fun e => he1 (Or.inl e)
    omega
  have hw : t.wide n.nodes = true := by
    cases e : t.wide n.nodes with
    | true => rfl
    | false => exact absurd (Or.inr e) he1
  have hwide : ∀ r, r < n.N → t.L r = n.N := fun r hr => by
    have := (t.wide_iff n.nodes).1 hw r (by omega)
    omega
  refine ⟨hlen, hwide, fun r hr c hc => ?_⟩
  have h1 := (List.any_eq_false.1 he2) r (by simp; omega)
  rw [Bool.not_eq_true] at h1
  have h2 := (List.any_eq_false.1 h1) c (by rw [hwide r hr]; simpa using hc)
  unfold strayB at h2
  simp only [Bool.and_eq_true, bne_iff_ne, Bool.not_eq_true', Bool.and_eq_false_iff, decide_eq_false_iff_not, not_and] at h2
  by_cases e : t.Z r c = -1
  · exact Or.inl e
  · right
    have := h2 e
    omega

theorem tableTable_any (n : NetM) (x : Mat) (w : World) (h : n.In w.heap.size w) (hx : x.In w.heap.size w) :
    Calls Try.prog 50 #[n.val, x.val] w fun e w' => (∃ y : Mat, e = .returned (.tuple #[y.val, .int .i64 (n.net.fit x.t)]) ∧ StateAns n.net.N w.heap.size (n.net.next x.t.Z) (n.net.fit x.t) y w') ∧ Below w.heap.size w w' := by
  by_cases hf : n.net.fit x.t = 0
  · refine (tableTable_ok n x w h hx hf).mono ?_
    rintro e w' ⟨⟨y, rfl, hy⟩, hb⟩
    exact ⟨⟨y, by rw [hf], ⟨hy.2.1, hy.2.2, fun _ => hy.1, fun h => absurd hf h⟩⟩, hb⟩
  · refine (tableTable_bad n x w h hx hf).mono ?_
    rintro e w' ⟨rfl, hb⟩
    exact ⟨⟨nilM, rfl, ⟨nilM_in _ _, nilM_from _, fun h => absurd h hf, fun _ => rfl⟩⟩, hb⟩
theorem tableWalk_any (n : NetM) (t : Mat) (a b : Int) (w : World) (h : n.In w.heap.size w) (ht : t.In w.heap.size w) :
    Calls Try.prog 51 #[n.val, t.val, .int .i64 a, .int .i64 b] w fun e w' => (∃ v, e = .returned (.tuple #[v, .bool (n.net.walkRes t.t a b).2, .int .i64 (n.net.walkErr t.t a b)]) ∧ w'.ownsRow w.heap.size 3 1 v (n.net.walkRes t.t a b).1.length (intV (n.net.walkRes t.t a b).1)) ∧ Below w.heap.size w w' := by
  by_cases he : n.net.walkErr t.t a b = 0
  · obtain ⟨h1, h2⟩ := Net.walkErr_zero he
    obtain ⟨h3, h4⟩ := Net.areTwo_iff.1 h2
    obtain ⟨an, rfl⟩ : ∃ an : Nat, a = an := ⟨a.toNat, by omega⟩
    obtain ⟨bn, rfl⟩ : ∃ bn : Nat, b = bn := ⟨b.toNat, by omega⟩
    have lo := (Net.good_of_check (Net.check_of_tabErr h1)).lo
    have hN : n.nodes = (n.net.N : Nat) := by show n.net.nodes = _; unfold Net.N; omega
    have hnn : n.net.nodes = n.nodes := rfl
    unfold Net.walkRes
    rw [if_pos he, he]
    exact tableWalk_ok n t n.net.N an bn w h ht hN (by omega) (by omega) h1
  · refine (tableWalk_bad n t a b w h ht he).mono ?_
    rintro e w' ⟨rfl, hb⟩
    unfold Net.walkRes
    rw [if_neg he]
    exact ⟨⟨_, rfl, World.ownsRow_nil _ _ _ _⟩, hb⟩
theorem refWalk_res (n : NetM) (t : Mat) (a b : Int) (w : World) (ht : t.In w.heap.size w) (he : n.net.walkErr t.t a b = 0) :
    Calls Try.prog 56 #[t.val, .int .i64 a, .int .i64 b] w fun e w' => (∃ v, e = .returned (.tuple #[v, .bool (n.net.walkRes t.t a b).2]) ∧ w'.ownsRow w.heap.size 3 1 v (n.net.walkRes t.t a b).1.length (intV (n.net.walkRes t.t a b).1)) ∧ Below w.heap.size w w' := by
  obtain ⟨h1, h2⟩ := Net.walkErr_zero he
  obtain ⟨h3, h4⟩ := Net.areTwo_iff.1 h2
  obtain ⟨an, rfl⟩ : ∃ an : Nat, a = an := ⟨a.toNat, by omega⟩
  obtain ⟨bn, rfl⟩ : ∃ bn : Nat, b = bn := ⟨b.toNat, by omega⟩
  have g := Net.good_of_check (Net.check_of_tabErr h1)
  have lo := g.lo
  have hi := g.hi
  have hN : n.net.nodes = (n.net.N : Nat) := by unfold Net.N; omega
  obtain ⟨t1, t2, t3⟩ := Net.tab_of_tabErr h1
  unfold Net.walkRes
  rw [if_pos he]
  exact refWalk_any t n.net.N an bn w ht t1 t2 (by omega) (by omega) (by omega) t3

set_option maxHeartbeats 8000000 in
theorem tableTells_any (n : NetM) (x t : Mat) (a b : Int) (w : World) (h : n.In w.heap.size w) (hx : x.In w.heap.size w) (ht : t.In w.heap.size w) :
    Calls Try.prog 10 #[n.val, x.val, t.val, .int .i64 a, .int .i64 b] w fun e w' => e = .returned (.bool true) ∧ Below w.heap.size w w' := by
  have hB0 : Below w.heap.size w (w.alloc (.cells n.cells 41)) := (Below.refl _ w).alloc (Nat.le_refl _) _
  have b0 := Blk.new w n.cells 41
  have HR := hide (tableTable_any n x _ (h.grown hB0) (hx.grown hB0))
  have HW := hide (fun W (hb : Below w.heap.size w W) => tableWalk_any n t a b W (h.grown hb) (ht.grown hb))
  have HFt := hide (fun W (hb : Below w.heap.size w W) => fitOf_any n x W (h.grown hb) (hx.grown hb))
  have HCt := hide (fun W (hb : Below w.heap.size w W) => checkTable_any n t W (h.grown hb) (ht.grown hb))
  have HTo := hide (fun W (hb : Below w.heap.size w W) (hf : n.net.fit x.t = 0) => tableOf_any n x W (h.grown hb) (hx.grown hb) (Net.is_of_fit hf).1 (Net.is_of_fit hf).2)
  have HNd := hide (fun (i : Int) (W : World) (hc : n.net.check = 0) => isNode_any n i W (Net.good_of_check hc).lo (Net.good_of_check hc).hi)
  have HWo := hide (fun W (hb : Below w.heap.size w W) (he : n.net.walkErr t.t a b = 0) => refWalk_res n t a b W (ht.grown hb) he)
  have Hck : Hid (n.net.tabErr t.t = 0 → n.net.check = 0) := hide (fun he => Net.check_of_tabErr he)
  have Hnd : Hid (∀ c : Int, (decide (0 ≤ c) && decide (c ≤ n.nodes - 1)) = (decide (0 ≤ c) && decide (c < n.net.nodes))) := hide (fun c => by
    rw [show decide (c ≤ n.nodes - 1) = decide (c < n.net.nodes) from decide_eq_decide.2 (by have : n.net.nodes = n.nodes := rfl; omega)])
  have Hbad : Hid (n.net.tabErr t.t ≠ 0 ∨ (decide (0 ≤ a) && decide (a ≤ n.nodes - 1)) = false ∨ (decide (0 ≤ b) && decide (b ≤ n.nodes - 1)) = false → n.net.walkErr t.t a b = (if n.net.tabErr t.t ≠ 0 then n.net.tabErr t.t else 5) ∧ (n.net.walkRes t.t a b).1 = [] ∧ (n.net.walkRes t.t a b).2 = false) := hide (fun hc => by
    rw [Hnd.out, Hnd.out] at hc
    have e : n.net.walkErr t.t a b = (if n.net.tabErr t.t ≠ 0 then n.net.tabErr t.t else 5) := by
      unfold Net.walkErr
      by_cases he : n.net.tabErr t.t = 0
      · have e2 : n.net.areTwo a b = false := by
          unfold Net.areTwo
          rcases hc with hc | hc | hc
          · exact absurd he hc
          · rw [hc]; rfl
          · rw [hc, Bool.and_false]
        rw [if_neg (by simp [he]), if_pos e2, if_neg (by simp [he])]
      · rw [if_pos he, if_pos he]
    have e0 : n.net.walkErr t.t a b ≠ 0 := by
      rw [e]
      split
      · assumption
      · decide
    unfold Net.walkRes
    rw [if_neg e0]
    exact ⟨e, rfl, rfl⟩)
  have Hgood : Hid (n.net.tabErr t.t = 0 → (decide (0 ≤ a) && decide (a ≤ n.nodes - 1)) = true → (decide (0 ≤ b) && decide (b ≤ n.nodes - 1)) = true → n.net.walkErr t.t a b = 0) := hide (fun h1 h2 h3 => by
    rw [Hnd.out] at h2 h3
    unfold Net.walkErr
    rw [if_neg (by simp [h1]), if_neg]
    unfold Net.areTwo
    rw [h2, h3]
    simp)
  clear Hnd
  generalize n.net.walkRes t.t a b = res at *
  obtain ⟨rl, rb⟩ := res
  simp only at HW HWo Hbad
  generalize n.net.walkErr t.t a b = we at *
  generalize n.net.tabErr t.t = te at *
  generalize n.net.check = ck at *
  generalize n.net.fit x.t = ft at *
  clear h hx ht
  have hcells : n.cells = #[.int .i64 n.a.size, .slice n.a.B.ga n.a.B.t.len n.a.B.cap, .slice n.a.E.ga n.a.E.t.len n.a.E.cap, .int .i64 n.nodes, .slice n.la n.ln n.lc] := rfl
  simp only [NetM.val, hcells, Mat.val] at HR HW HFt HCt HTo HNd HWo hB0 b0 ⊢
  clear hcells
  go_enter Try.func10, Try.ntmps10
  go_wp2_with fail
  go_at_call 50
  refine HR.out.mono ?_
  rintro e w1 ⟨⟨y, rfl, hy⟩, hb1⟩
  have hB1 := hB0.trans (hb1.mono hB0.size)
  have b1 := b0.below hb1 b0.lt
  have HY1 := hide (hy.lower (Nat.zero_le _))
  have x0 := b1.cell 0
  have x1 := b1.cell 1
  have x2 := b1.cell 2
  have x3 := b1.cell 3
  have x4 := b1.cell 4
  simp at x0 x1 x2 x3 x4
  have HW1 := hide (HW.out w1 hB1)
  clear HR HW hB0 b0 hb1 hy
  go_wp2_with fail
  go_at_call 51
  refine HW1.out.mono ?_
  rintro e w2 ⟨⟨v, rfl, ho⟩, hb2⟩
  have HB2 := hide (hB1.trans (hb2.mono hB1.size))
  have Hbn := hide (b1.below hb2 b1.lt)
  have HY := hide (HY1.out.grown hb2)
  have HO := hide ho
  clear HY1 hB1 b1 hb2 HW1 ho x0 x1 x2 x3 x4
  go_wp2_with fail
  refine wp_region_only (fun W => Below w2.heap.size w2 W) (valsE [.agg #[.int .i64 n.a.size, .slice n.a.B.ga n.a.B.t.len n.a.B.cap, .slice n.a.E.ga n.a.E.t.len n.a.E.cap, .int .i64 n.nodes, .slice n.la n.ln n.lc], .slice x.ga x.t.len x.cap, .int .i64 ft, .agg #[.int .i64 n.a.size, .slice n.a.B.ga n.a.B.t.len n.a.B.cap, .slice n.a.E.ga n.a.E.t.len n.a.E.cap, .int .i64 n.nodes, .slice n.la n.ln n.lc], .slice t.ga t.t.len t.cap, .int .i64 te, .int .i64 ft, .int .i64 te]) (by kernel_rfl) (by kernel_rfl) (by kernel_rfl) (below_drewN (Below.refl _ _) 1) ⟨?_, ?_, ?_, ?_, ?_, ?_, ?_, ?_, trivial⟩ ?_
  rotate_right
  · intro t W hG hE
    have e6 := valsE_get (hE 6 (by decide)) rfl
    have e7 := valsE_get (hE 7 (by decide)) rfl
    have HG' := hide hG
    clear hE hG
    simp only [fill, Act.put, List.setIfInBounds_toArray, List.set_cons_zero, List.set_cons_succ, e6, e7]
    clear e6 e7
    by_cases hft : ft = 0
    rotate_left
    · have hft' : (ft == 0) = false := by simp [hft]
      have HM : Hid (StateAns n.net.N 0 (n.net.next x.t.Z) ft nilM W) := hide ⟨nilM_in _ _, nilM_from _, fun h => absurd h hft, fun _ => rfl⟩
      clear hft
      by_cases hte : te = 0
      rotate_left
      · have hte' : (te == 0) = false := by simp [hte]
        obtain ⟨hwe, hrl, hrb⟩ := Hbad.out (Or.inl hte)
        have Hwe := hide hwe
        have hwe0 : we = te := by rw [Hwe.out, if_pos hte]
        have hwe' : (we == 0) = false := by rw [hwe0]; exact hte'
        subst hrl hrb hwe0
        clear hte hwe Hwe Hbad
        have HTb := hide (tableBegun_any W)
        clear HFt HCt HTo HNd HWo
        go_wp2_with fail
        go_at_call 48
        refine HTb.out.mono ?_
        rintro e w8 ⟨rfl, hb8⟩
        have HB8 := hide ((HG'.out).trans (hb8.mono (HG'.out).size))
        have HY8 := hide (HY.out.grown HB8.out)
        have HM8 := hide (HM.out.grown hb8)
        have HS2 := hide (fun z => sameOwn_any (owns_below (owns_below HO.out HB8.out) (below_drewN (Below.refl _ _) z)) (owns_below (owns_below (World.ownsRow_nil W 0 3 1) hb8) (below_drewN (Below.refl _ _) z)))
        have HS1 := hide (stateIs_yes y nilM ft w8.heap.size w8 HY8.out.mem HM8.out.mem (fun h => by rw [HY8.out.ok h, HM8.out.ok h]; exact Tab.same_refl _) (fun h => HY8.out.bad h))
        simp only [Mat.val, nilM] at HS1
        clear hb8 HTb HY8 HM8
        go_wp2_with fail
        go_at_call 57
        refine HS1.out.mono ?_
        rintro e w9 ⟨rfl, z9, rfl⟩
        go_wp2_with fail
        go_at_call 58
        refine (HS2.out z9).mono ?_
        rintro e w10 ⟨rfl, z10, rfl⟩
        clear HS1 HS2
        go_wp2
        go_ret
        exact ⟨by simp, HB2.out.trans ((below_drewN HB8.out _).mono HB2.out.size)⟩
      have hck0 := Hck.out hte
      subst hte
      by_cases ha : (decide (0 ≤ a) && decide (a ≤ n.nodes - 1)) = true
      rotate_left
      · have hab : (decide (0 ≤ a) && decide (a ≤ n.nodes - 1)) = false := by simpa using ha
        obtain ⟨hwe, hrl, hrb⟩ := Hbad.out (Or.inr (Or.inl hab))
        have hwe5 : we = 5 := by rw [hwe, if_neg (by simp)]
        subst hrl hrb hwe5
        clear ha hwe Hbad
        have HNx := hide (HNd.out a W hck0)
        rw [hab] at HNx
        have bN := Hbn.out.below (HG'.out) Hbn.out.lt
        have x0 := bN.cell 0
        have x1 := bN.cell 1
        have x2 := bN.cell 2
        have x3 := bN.cell 3
        have x4 := bN.cell 4
        simp at x0 x1 x2 x3 x4
        clear bN
        go_wp2_with fail
        go_at_call 55
        refine HNx.out.mono ?_
        rintro e w5 ⟨rfl, hw⟩
        have HBw5 : Hid (Below w2.heap.size w2 w5) := hide (by rw [hw]; exact (HG'.out).alloc (HG'.out).size _)
        have HMw5 := hide (HM.out.grown (show Below W.heap.size W w5 by rw [hw]; exact (Below.refl _ _).alloc (Nat.le_refl _) _))
        clear HM hw HNx x0 x1 x2 x3 x4
        have HM := HMw5
        clear HMw5
        have HTb := hide (tableBegun_any w5)
        clear HFt HCt HTo HNd HWo
        go_wp2_with fail
        go_at_call 48
        refine HTb.out.mono ?_
        rintro e w8 ⟨rfl, hb8⟩
        have HB8 := hide ((HBw5.out).trans (hb8.mono (HBw5.out).size))
        have HY8 := hide (HY.out.grown HB8.out)
        have HM8 := hide (HM.out.grown hb8)
        have HS2 := hide (fun z => sameOwn_any (owns_below (owns_below HO.out HB8.out) (below_drewN (Below.refl _ _) z)) (owns_below (owns_below (World.ownsRow_nil w5 0 3 1) hb8) (below_drewN (Below.refl _ _) z)))
        have HS1 := hide (stateIs_yes y nilM ft w8.heap.size w8 HY8.out.mem HM8.out.mem (fun h => by rw [HY8.out.ok h, HM8.out.ok h]; exact Tab.same_refl _) (fun h => HY8.out.bad h))
        simp only [Mat.val, nilM] at HS1
        clear hb8 HTb HY8 HM8
        go_wp2_with fail
        go_at_call 57
        refine HS1.out.mono ?_
        rintro e w9 ⟨rfl, z9, rfl⟩
        go_wp2_with fail
        go_at_call 58
        refine (HS2.out z9).mono ?_
        rintro e w10 ⟨rfl, z10, rfl⟩
        clear HS1 HS2
        go_wp2
        go_ret
        exact ⟨by simp, HB2.out.trans ((below_drewN HB8.out _).mono HB2.out.size)⟩
      have hab := ha
      clear ha
      have HNx := hide (HNd.out a W hck0)
      rw [hab] at HNx
      have bN := Hbn.out.below (HG'.out) Hbn.out.lt
      have x0 := bN.cell 0
      have x1 := bN.cell 1
      have x2 := bN.cell 2
      have x3 := bN.cell 3
      have x4 := bN.cell 4
      simp at x0 x1 x2 x3 x4
      clear bN
      go_wp2_with fail
      go_at_call 55
      refine HNx.out.mono ?_
      rintro e w5 ⟨rfl, hw⟩
      have HBw5 : Hid (Below w2.heap.size w2 w5) := hide (by rw [hw]; exact (HG'.out).alloc (HG'.out).size _)
      have HMw5 := hide (HM.out.grown (show Below W.heap.size W w5 by rw [hw]; exact (Below.refl _ _).alloc (Nat.le_refl _) _))
      clear HM hw HNx x0 x1 x2 x3 x4
      have HM := HMw5
      clear HMw5
      by_cases hb : (decide (0 ≤ b) && decide (b ≤ n.nodes - 1)) = true
      rotate_left
      · have hbb : (decide (0 ≤ b) && decide (b ≤ n.nodes - 1)) = false := by simpa using hb
        obtain ⟨hwe, hrl, hrb⟩ := Hbad.out (Or.inr (Or.inr hbb))
        have hwe5 : we = 5 := by rw [hwe, if_neg (by simp)]
        subst hrl hrb hwe5
        clear hb hwe Hbad
        have HNx := hide (HNd.out b w5 hck0)
        rw [hbb] at HNx
        have bN := Hbn.out.below (HBw5.out) Hbn.out.lt
        have x0 := bN.cell 0
        have x1 := bN.cell 1
        have x2 := bN.cell 2
        have x3 := bN.cell 3
        have x4 := bN.cell 4
        simp at x0 x1 x2 x3 x4
        clear bN
        go_wp2_with fail
        go_at_call 55
        refine HNx.out.mono ?_
        rintro e w6 ⟨rfl, hw⟩
        have HBw6 : Hid (Below w2.heap.size w2 w6) := hide (by rw [hw]; exact (HBw5.out).alloc (HBw5.out).size _)
        have HMw6 := hide (HM.out.grown (show Below w5.heap.size w5 w6 by rw [hw]; exact (Below.refl _ _).alloc (Nat.le_refl _) _))
        clear HM hw HNx x0 x1 x2 x3 x4
        have HM := HMw6
        clear HMw6
        have HTb := hide (tableBegun_any w6)
        clear HFt HCt HTo HNd HWo
        go_wp2_with fail
        go_at_call 48
        refine HTb.out.mono ?_
        rintro e w8 ⟨rfl, hb8⟩
        have HB8 := hide ((HBw6.out).trans (hb8.mono (HBw6.out).size))
        have HY8 := hide (HY.out.grown HB8.out)
        have HM8 := hide (HM.out.grown hb8)
        have HS2 := hide (fun z => sameOwn_any (owns_below (owns_below HO.out HB8.out) (below_drewN (Below.refl _ _) z)) (owns_below (owns_below (World.ownsRow_nil w6 0 3 1) hb8) (below_drewN (Below.refl _ _) z)))
        have HS1 := hide (stateIs_yes y nilM ft w8.heap.size w8 HY8.out.mem HM8.out.mem (fun h => by rw [HY8.out.ok h, HM8.out.ok h]; exact Tab.same_refl _) (fun h => HY8.out.bad h))
        simp only [Mat.val, nilM] at HS1
        clear hb8 HTb HY8 HM8
        go_wp2_with fail
        go_at_call 57
        refine HS1.out.mono ?_
        rintro e w9 ⟨rfl, z9, rfl⟩
        go_wp2_with fail
        go_at_call 58
        refine (HS2.out z9).mono ?_
        rintro e w10 ⟨rfl, z10, rfl⟩
        clear HS1 HS2
        go_wp2
        go_ret
        exact ⟨by simp, HB2.out.trans ((below_drewN HB8.out _).mono HB2.out.size)⟩
      have hbb := hb
      clear hb
      have HNx := hide (HNd.out b w5 hck0)
      rw [hbb] at HNx
      have bN := Hbn.out.below (HBw5.out) Hbn.out.lt
      have x0 := bN.cell 0
      have x1 := bN.cell 1
      have x2 := bN.cell 2
      have x3 := bN.cell 3
      have x4 := bN.cell 4
      simp at x0 x1 x2 x3 x4
      clear bN
      go_wp2_with fail
      go_at_call 55
      refine HNx.out.mono ?_
      rintro e w6 ⟨rfl, hw⟩
      have HBw6 : Hid (Below w2.heap.size w2 w6) := hide (by rw [hw]; exact (HBw5.out).alloc (HBw5.out).size _)
      have HMw6 := hide (HM.out.grown (show Below w5.heap.size w5 w6 by rw [hw]; exact (Below.refl _ _).alloc (Nat.le_refl _) _))
      clear HM hw HNx x0 x1 x2 x3 x4
      have HM := HMw6
      clear HMw6
      have Hwe := hide (Hgood.out (by trivial) hab hbb)
      have hwe0 : we = 0 := Hwe.out
      have HWx := hide (HWo.out w6 (HB2.out.trans (HBw6.out.mono HB2.out.size)) hwe0)
      subst hwe0
      clear Hbad Hgood Hwe hab hbb
      go_wp2_with fail
      go_at_call 56
      refine HWx.out.mono ?_
      rintro e w7 ⟨⟨v7, rfl, ho7⟩, hb7⟩
      have HB7 := hide (HBw6.out.trans (hb7.mono HBw6.out.size))
      have HO7 := hide ho7
      have HM7 := hide (HM.out.grown hb7)
      clear HM HWx ho7 hb7
      have HM := HM7
      clear HM7
      have HTb := hide (tableBegun_any w7)
      clear HFt HCt HTo HNd HWo
      go_wp2_with fail
      go_at_call 48
      refine HTb.out.mono ?_
      rintro e w8 ⟨rfl, hb8⟩
      have HB8 := hide ((HB7.out).trans (hb8.mono (HB7.out).size))
      have HY8 := hide (HY.out.grown HB8.out)
      have HM8 := hide (HM.out.grown hb8)
      have HS2 := hide (fun z => sameOwn_any (owns_below (owns_below HO.out HB8.out) (below_drewN (Below.refl _ _) z)) (owns_below (owns_below (HO7.out) hb8) (below_drewN (Below.refl _ _) z)))
      have HS1 := hide (stateIs_yes y nilM ft w8.heap.size w8 HY8.out.mem HM8.out.mem (fun h => by rw [HY8.out.ok h, HM8.out.ok h]; exact Tab.same_refl _) (fun h => HY8.out.bad h))
      simp only [Mat.val, nilM] at HS1
      clear hb8 HTb HY8 HM8
      go_wp2_with fail
      go_at_call 57
      refine HS1.out.mono ?_
      rintro e w9 ⟨rfl, z9, rfl⟩
      go_wp2_with fail
      go_at_call 58
      refine (HS2.out z9).mono ?_
      rintro e w10 ⟨rfl, z10, rfl⟩
      clear HS1 HS2
      go_wp2
      go_ret
      exact ⟨by simp, HB2.out.trans ((below_drewN HB8.out _).mono HB2.out.size)⟩
    have HTx := hide (HTo.out W (HB2.out.trans (HG'.out.mono HB2.out.size)) hft)
    subst hft
    have bN := Hbn.out.below (HG'.out) Hbn.out.lt
    have x0 := bN.cell 0
    have x1 := bN.cell 1
    have x2 := bN.cell 2
    have x3 := bN.cell 3
    have x4 := bN.cell 4
    simp at x0 x1 x2 x3 x4
    clear bN
    go_wp2_with fail
    go_at_call 54
    refine HTx.out.mono ?_
    rintro e w4 ⟨⟨m, rfl, hm⟩, hb4⟩
    have HM : Hid (StateAns n.net.N 0 (n.net.next x.t.Z) 0 m w4) := hide ⟨hm.2.1, hm.2.2.mono (Nat.zero_le _), fun _ => hm.1, fun h => absurd rfl h⟩
    have HB4 := hide (HG'.out.trans (hb4.mono HG'.out.size))
    clear hm hb4 HTx x0 x1 x2 x3 x4 HG'
    by_cases hte : te = 0
    rotate_left
    · have hte' : (te == 0) = false := by simp [hte]
      obtain ⟨hwe, hrl, hrb⟩ := Hbad.out (Or.inl hte)
      have Hwe := hide hwe
      have hwe0 : we = te := by rw [Hwe.out, if_pos hte]
      have hwe' : (we == 0) = false := by rw [hwe0]; exact hte'
      subst hrl hrb hwe0
      clear hte hwe Hwe Hbad
      have HTb := hide (tableBegun_any w4)
      clear HFt HCt HTo HNd HWo
      go_wp2_with fail
      go_at_call 48
      refine HTb.out.mono ?_
      rintro e w8 ⟨rfl, hb8⟩
      have HB8 := hide ((HB4.out).trans (hb8.mono (HB4.out).size))
      have HY8 := hide (HY.out.grown HB8.out)
      have HM8 := hide (HM.out.grown hb8)
      have HS2 := hide (fun z => sameOwn_any (owns_below (owns_below HO.out HB8.out) (below_drewN (Below.refl _ _) z)) (owns_below (owns_below (World.ownsRow_nil w4 0 3 1) hb8) (below_drewN (Below.refl _ _) z)))
      have HS1 := hide (stateIs_yes y m _ w8.heap.size w8 HY8.out.mem HM8.out.mem (fun h => by rw [HY8.out.ok h, HM8.out.ok h]; exact Tab.same_refl _) (fun h => HY8.out.bad h))
      simp only [Mat.val] at HS1
      clear hb8 HTb HY8 HM8
      go_wp2_with fail
      go_at_call 57
      refine HS1.out.mono ?_
      rintro e w9 ⟨rfl, z9, rfl⟩
      go_wp2_with fail
      go_at_call 58
      refine (HS2.out z9).mono ?_
      rintro e w10 ⟨rfl, z10, rfl⟩
      clear HS1 HS2
      go_wp2
      go_ret
      exact ⟨by simp, HB2.out.trans ((below_drewN HB8.out _).mono HB2.out.size)⟩
    have hck0 := Hck.out hte
    subst hte
    by_cases ha : (decide (0 ≤ a) && decide (a ≤ n.nodes - 1)) = true
    rotate_left
    · have hab : (decide (0 ≤ a) && decide (a ≤ n.nodes - 1)) = false := by simpa using ha
      obtain ⟨hwe, hrl, hrb⟩ := Hbad.out (Or.inr (Or.inl hab))
      have hwe5 : we = 5 := by rw [hwe, if_neg (by simp)]
      subst hrl hrb hwe5
      clear ha hwe Hbad
      have HNx := hide (HNd.out a w4 hck0)
      rw [hab] at HNx
      have bN := Hbn.out.below (HB4.out) Hbn.out.lt
      have x0 := bN.cell 0
      have x1 := bN.cell 1
      have x2 := bN.cell 2
      have x3 := bN.cell 3
      have x4 := bN.cell 4
      simp at x0 x1 x2 x3 x4
      clear bN
      go_wp2_with fail
      go_at_call 55
      refine HNx.out.mono ?_
      rintro e w5 ⟨rfl, hw⟩
      have HBw5 : Hid (Below w2.heap.size w2 w5) := hide (by rw [hw]; exact (HB4.out).alloc (HB4.out).size _)
      have HMw5 := hide (HM.out.grown (show Below w4.heap.size w4 w5 by rw [hw]; exact (Below.refl _ _).alloc (Nat.le_refl _) _))
      clear HM hw HNx x0 x1 x2 x3 x4
      have HM := HMw5
      clear HMw5
      have HTb := hide (tableBegun_any w5)
      clear HFt HCt HTo HNd HWo
      go_wp2_with fail
      go_at_call 48
      refine HTb.out.mono ?_
      rintro e w8 ⟨rfl, hb8⟩
      have HB8 := hide ((HBw5.out).trans (hb8.mono (HBw5.out).size))
      have HY8 := hide (HY.out.grown HB8.out)
      have HM8 := hide (HM.out.grown hb8)
      have HS2 := hide (fun z => sameOwn_any (owns_below (owns_below HO.out HB8.out) (below_drewN (Below.refl _ _) z)) (owns_below (owns_below (World.ownsRow_nil w5 0 3 1) hb8) (below_drewN (Below.refl _ _) z)))
      have HS1 := hide (stateIs_yes y m _ w8.heap.size w8 HY8.out.mem HM8.out.mem (fun h => by rw [HY8.out.ok h, HM8.out.ok h]; exact Tab.same_refl _) (fun h => HY8.out.bad h))
      simp only [Mat.val] at HS1
      clear hb8 HTb HY8 HM8
      go_wp2_with fail
      go_at_call 57
      refine HS1.out.mono ?_
      rintro e w9 ⟨rfl, z9, rfl⟩
      go_wp2_with fail
      go_at_call 58
      refine (HS2.out z9).mono ?_
      rintro e w10 ⟨rfl, z10, rfl⟩
      clear HS1 HS2
      go_wp2
      go_ret
      exact ⟨by simp, HB2.out.trans ((below_drewN HB8.out _).mono HB2.out.size)⟩
    have hab := ha
    clear ha
    have HNx := hide (HNd.out a w4 hck0)
    rw [hab] at HNx
    have bN := Hbn.out.below (HB4.out) Hbn.out.lt
    have x0 := bN.cell 0
    have x1 := bN.cell 1
    have x2 := bN.cell 2
    have x3 := bN.cell 3
    have x4 := bN.cell 4
    simp at x0 x1 x2 x3 x4
    clear bN
    go_wp2_with fail
    go_at_call 55
    refine HNx.out.mono ?_
    rintro e w5 ⟨rfl, hw⟩
    have HBw5 : Hid (Below w2.heap.size w2 w5) := hide (by rw [hw]; exact (HB4.out).alloc (HB4.out).size _)
    have HMw5 := hide (HM.out.grown (show Below w4.heap.size w4 w5 by rw [hw]; exact (Below.refl _ _).alloc (Nat.le_refl _) _))
    clear HM hw HNx x0 x1 x2 x3 x4
    have HM := HMw5
    clear HMw5
    by_cases hb : (decide (0 ≤ b) && decide (b ≤ n.nodes - 1)) = true
    rotate_left
    · have hbb : (decide (0 ≤ b) && decide (b ≤ n.nodes - 1)) = false := by simpa using hb
      obtain ⟨hwe, hrl, hrb⟩ := Hbad.out (Or.inr (Or.inr hbb))
      have hwe5 : we = 5 := by rw [hwe, if_neg (by simp)]
      subst hrl hrb hwe5
      clear hb hwe Hbad
      have HNx := hide (HNd.out b w5 hck0)
      rw [hbb] at HNx
      have bN := Hbn.out.below (HBw5.out) Hbn.out.lt
      have x0 := bN.cell 0
      have x1 := bN.cell 1
      have x2 := bN.cell 2
      have x3 := bN.cell 3
      have x4 := bN.cell 4
      simp at x0 x1 x2 x3 x4
      clear bN
      go_wp2_with fail
      go_at_call 55
      refine HNx.out.mono ?_
      rintro e w6 ⟨rfl, hw⟩
      have HBw6 : Hid (Below w2.heap.size w2 w6) := hide (by rw [hw]; exact (HBw5.out).alloc (HBw5.out).size _)
      have HMw6 := hide (HM.out.grown (show Below w5.heap.size w5 w6 by rw [hw]; exact (Below.refl _ _).alloc (Nat.le_refl _) _))
      clear HM hw HNx x0 x1 x2 x3 x4
      have HM := HMw6
      clear HMw6
      have HTb := hide (tableBegun_any w6)
      clear HFt HCt HTo HNd HWo
      go_wp2_with fail
      go_at_call 48
      refine HTb.out.mono ?_
      rintro e w8 ⟨rfl, hb8⟩
      have HB8 := hide ((HBw6.out).trans (hb8.mono (HBw6.out).size))
      have HY8 := hide (HY.out.grown HB8.out)
      have HM8 := hide (HM.out.grown hb8)
      have HS2 := hide (fun z => sameOwn_any (owns_below (owns_below HO.out HB8.out) (below_drewN (Below.refl _ _) z)) (owns_below (owns_below (World.ownsRow_nil w6 0 3 1) hb8) (below_drewN (Below.refl _ _) z)))
      have HS1 := hide (stateIs_yes y m _ w8.heap.size w8 HY8.out.mem HM8.out.mem (fun h => by rw [HY8.out.ok h, HM8.out.ok h]; exact Tab.same_refl _) (fun h => HY8.out.bad h))
      simp only [Mat.val] at HS1
      clear hb8 HTb HY8 HM8
      go_wp2_with fail
      go_at_call 57
      refine HS1.out.mono ?_
      rintro e w9 ⟨rfl, z9, rfl⟩
      go_wp2_with fail
      go_at_call 58
      refine (HS2.out z9).mono ?_
      rintro e w10 ⟨rfl, z10, rfl⟩
      clear HS1 HS2
      go_wp2
      go_ret
      exact ⟨by simp, HB2.out.trans ((below_drewN HB8.out _).mono HB2.out.size)⟩
    have hbb := hb
    clear hb
    have HNx := hide (HNd.out b w5 hck0)
    rw [hbb] at HNx
    have bN := Hbn.out.below (HBw5.out) Hbn.out.lt
    have x0 := bN.cell 0
    have x1 := bN.cell 1
    have x2 := bN.cell 2
    have x3 := bN.cell 3
    have x4 := bN.cell 4
    simp at x0 x1 x2 x3 x4
    clear bN
    go_wp2_with fail
    go_at_call 55
    refine HNx.out.mono ?_
    rintro e w6 ⟨rfl, hw⟩
    have HBw6 : Hid (Below w2.heap.size w2 w6) := hide (by rw [hw]; exact (HBw5.out).alloc (HBw5.out).size _)
    have HMw6 := hide (HM.out.grown (show Below w5.heap.size w5 w6 by rw [hw]; exact (Below.refl _ _).alloc (Nat.le_refl _) _))
    clear HM hw HNx x0 x1 x2 x3 x4
    have HM := HMw6
    clear HMw6
    have Hwe := hide (Hgood.out (by trivial) hab hbb)
    have hwe0 : we = 0 := Hwe.out
    have HWx := hide (HWo.out w6 (HB2.out.trans (HBw6.out.mono HB2.out.size)) hwe0)
    subst hwe0
    clear Hbad Hgood Hwe hab hbb
    go_wp2_with fail
    go_at_call 56
    refine HWx.out.mono ?_
    rintro e w7 ⟨⟨v7, rfl, ho7⟩, hb7⟩
    have HB7 := hide (HBw6.out.trans (hb7.mono HBw6.out.size))
    have HO7 := hide ho7
    have HM7 := hide (HM.out.grown hb7)
    clear HM HWx ho7 hb7
    have HM := HM7
    clear HM7
    have HTb := hide (tableBegun_any w7)
    clear HFt HCt HTo HNd HWo
    go_wp2_with fail
    go_at_call 48
    refine HTb.out.mono ?_
    rintro e w8 ⟨rfl, hb8⟩
    have HB8 := hide ((HB7.out).trans (hb8.mono (HB7.out).size))
    have HY8 := hide (HY.out.grown HB8.out)
    have HM8 := hide (HM.out.grown hb8)
    have HS2 := hide (fun z => sameOwn_any (owns_below (owns_below HO.out HB8.out) (below_drewN (Below.refl _ _) z)) (owns_below (owns_below (HO7.out) hb8) (below_drewN (Below.refl _ _) z)))
    have HS1 := hide (stateIs_yes y m _ w8.heap.size w8 HY8.out.mem HM8.out.mem (fun h => by rw [HY8.out.ok h, HM8.out.ok h]; exact Tab.same_refl _) (fun h => HY8.out.bad h))
    simp only [Mat.val] at HS1
    clear hb8 HTb HY8 HM8
    go_wp2_with fail
    go_at_call 57
    refine HS1.out.mono ?_
    rintro e w9 ⟨rfl, z9, rfl⟩
    go_wp2_with fail
    go_at_call 58
    refine (HS2.out z9).mono ?_
    rintro e w10 ⟨rfl, z10, rfl⟩
    clear HS1 HS2
    go_wp2
    go_ret
    exact ⟨by simp, HB2.out.trans ((below_drewN HB8.out _).mono HB2.out.size)⟩
  all_goals intro t W hG hp K hK
  all_goals simp only [fill, Act.put, List.setIfInBounds_toArray, List.set_cons_zero, List.set_cons_succ] at hK ⊢
  · have bN := Hbn.out.below hG Hbn.out.lt
    have x0 := bN.cell 0
    have x1 := bN.cell 1
    have x2 := bN.cell 2
    have x3 := bN.cell 3
    have x4 := bN.cell 4
    simp at x0 x1 x2 x3 x4
    rw [if_pos (by rfl)]
    go_simp
    exact hK _ W hG rfl (fun _ _ _ h => h)
  · rw [if_pos (by rfl)]
    go_simp
    exact hK _ W hG rfl (fun _ _ _ h => h)
  · have e0 := valsE_get (hp 0 (by decide)) rfl
    have e1 := valsE_get (hp 1 (by decide)) rfl
    simp only [e0, e1] at hK ⊢
    rw [if_pos (by rfl)]
    go_simp
    go_at_call 52
    refine (HFt.out W (HB2.out.trans (hG.mono HB2.out.size))).mono ?_
    rintro e W' ⟨rfl, hb⟩
    go_simp
    exact hK _ W' (hG.trans (hb.mono hG.size)) rfl (fun _ _ _ h => h)
  · have bN := Hbn.out.below hG Hbn.out.lt
    have x0 := bN.cell 0
    have x1 := bN.cell 1
    have x2 := bN.cell 2
    have x3 := bN.cell 3
    have x4 := bN.cell 4
    simp at x0 x1 x2 x3 x4
    rw [if_pos (by rfl)]
    go_simp
    exact hK _ W hG rfl (fun _ _ _ h => h)
  · rw [if_pos (by rfl)]
    go_simp
    exact hK _ W hG rfl (fun _ _ _ h => h)
  · have e3 := valsE_get (hp 3 (by decide)) rfl
    have e4 := valsE_get (hp 4 (by decide)) rfl
    simp only [e3, e4] at hK ⊢
    rw [if_pos (by rfl)]
    go_simp
    go_at_call 53
    refine (HCt.out W (HB2.out.trans (hG.mono HB2.out.size))).mono ?_
    rintro e W' ⟨rfl, hb⟩
    go_simp
    exact hK _ W' (hG.trans (hb.mono hG.size)) rfl (fun _ _ _ h => h)
  · have e2 := valsE_get (hp 2 (by decide)) rfl
    simp only [e2] at hK ⊢
    rw [if_pos (by rfl)]
    go_simp
    exact hK _ W hG rfl (fun _ _ _ h => h)
  · have e5 := valsE_get (hp 5 (by decide)) rfl
    simp only [e5] at hK ⊢
    rw [if_pos (by rfl)]
    go_simp
    exact hK _ W hG rfl (fun _ _ _ h => h)

end Go.Proofs.Ytjhkadffaephmab
