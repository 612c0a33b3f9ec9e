/-
  signpostref.Built: the walk.
-/
import Derived.Test.YtjhkadffaephmaaRefBuiltA
import Derived.Test.YtjhkadffaephmaaRefPairD
namespace Go.Proofs.Ytjhkadffaephmaa
set_option maxRecDepth 100000
open Go.RowKit

theorem tabs_forms {x : NAlg} {lo hi : Nat} {VB VE : Value} {w : World} (h : TabsOf x lo hi VB VE w) : ∃ gB cB gE cE, VB = .slice gB x.size cB ∧ VE = .slice gE x.el cE := by
  obtain ⟨mid, _, _, h1, h2⟩ := h
  obtain ⟨gB, cB, e1⟩ := h1.form
  obtain ⟨gE, cE, e2⟩ := h2.form
  exact ⟨gB, cB, gE, cE, e1, e2⟩

theorem tabs_mats {x : NAlg} {lo hi : Nat} {VB VE : Value} {w : World} (h : TabsOf x lo hi VB VE w) (hx : x.Ok) : ∃ m : AlgM, VB = m.B.val ∧ VE = m.E.val ∧ LiesA m x ∧ m.In w.heap.size w := by
  obtain ⟨mid, _, _, h1, h2⟩ := h
  have := hx.hi
  have := hx.el
  obtain ⟨B, e1, t1, i1, _⟩ := h1.mat (by omega) (by omega)
  obtain ⟨E, e2, t2, i2, _⟩ := h2.mat (by omega) (by omega)
  exact ⟨⟨x.size, B, E⟩, e1, e2, ⟨rfl, t1, t2⟩, i1, i2⟩

theorem grown3 (w : World) (B : Nat) (v0 v1 v2 : Value) : w.grownBy (set3 w B v0 v1 v2) (some B) := ⟨rfl, rfl, rfl, by unfold Ytjhkadffaephmaa.set3; simp, fun j _ hne => by
  have e : ∀ (X : World) (k : Nat) (v : Value), (X.setCell ⟨B, k, none⟩ v).heap[j]? = X.heap[j]? := fun X k v => by
    show (X.heap.modify B _)[j]? = _
    rw [Array.getElem?_modify, if_neg (fun e => hne (by rw [e]))]
  unfold Ytjhkadffaephmaa.set3
  rw [e, e, e]⟩

theorem tabs_set3 {x : NAlg} {lo : Nat} {VB VE : Value} {w : World} {B : Nat} (h : TabsOf x lo w.heap.size VB VE w) (hB : B < lo) (v0 v1 v2 : Value) : TabsOf x lo (set3 w B v0 v1 v2).heap.size VB VE (set3 w B v0 v1 v2) := by
  have hs : (set3 w B v0 v1 v2).heap.size = w.heap.size := by unfold Ytjhkadffaephmaa.set3; simp
  rw [hs]
  exact h.kept (grown3 w B v0 v1 v2) (fun k hk => Or.inl (by have e : B = k := (by simpa using hk); omega))
theorem TabsOf.lower {x : NAlg} {lo lo' hi : Nat} {VB VE : Value} {w : World} (h : TabsOf x lo hi VB VE w) (hl : lo' ≤ lo) : TabsOf x lo' hi VB VE w := by
  obtain ⟨mid, h1, h2, h3, h4⟩ := h
  exact ⟨mid, by omega, h2, h3.mono hl (Nat.le_refl _), h4⟩

set_option maxRecDepth 100000 in
set_option maxHeartbeats 8000000 in
theorem refBuilt_any (p : PlanM) : ∀ (w : World), p.In w.heap.size w → p.wide = false →
    Calls Try.prog 68 #[p.head.val] w fun e w' => RefAns p w.heap.size e w' ∧ Below w.heap.size w w' := by
  induction p using PlanM.ind with
  | no => exact fun _ h => False.elim h
  | mk h sub ih =>
    intro w hin hwide
    have IH := hide ih
    clear ih
    obtain ⟨hh, hs⟩ := hin
    obtain ⟨hen, hsw⟩ := wide_sub hwide
    have hpl := hh.plen
    have hb0 : Below w.heap.size w ((w.alloc (.cells h.cells 42)).alloc (.cells #[.int .i64 0, .slice none 0 0, .slice none 0 0] 24)) := ((Below.refl _ w).alloc (Nat.le_refl _) _).alloc (by simp) _
    have b0 := (Blk.new w h.cells 42).alloc (.cells #[.int .i64 0, .slice none 0 0, .slice none 0 0] 24)
    have bR : Blk ((w.alloc (.cells h.cells 42)).alloc (.cells #[.int .i64 0, .slice none 0 0, .slice none 0 0] 24)) (w.heap.size + 1) #[.int .i64 0, .slice none 0 0, .slice none 0 0] 24 := Blk.new' (by simp)
    obtain ⟨i0, hi0, hz0, hz1, hz2⟩ := info_parts Try.infoAlg
    obtain ⟨i1, hi1, hy0, hy1, hy2⟩ := info_parts Try.infoInt
    obtain ⟨i2, hi2, hx0, hx1, hx2⟩ := info_parts Try.infoInts
    simp only [head_mk, PHead.val, PHead.cells] at *
    go_enter Try.func68, Try.ntmps68
    go_wp2
    generalize hW2 : ((w.alloc (.cells #[.int .i64 h.kind, .int .i64 h.n, .slice h.eg h.en h.ec, .slice h.pg h.pn h.pc] 42)).alloc (.cells #[.int .i64 0, .slice none 0 0, .slice none 0 0] 24)) = W2 at *
    have hsz : W2.heap.size = w.heap.size + 2 := by rw [← hW2]; simp
    clear hW2
    go_loopw [4, 5] (fun v i wr => ∃ (k : Nat) (VB VE : Nat → Value) (lo hi : Nat → Nat), k ≤ h.pn ∧ i = .int .i64 k ∧ Hid (∀ j, j < k → (sub j).err = 0) ∧ Hid (PartsP (w.heap.size + 2) (fun j => (sub j).built) k v VB VE lo hi wr) ∧ Hid (Below (w.heap.size + 2) W2 wr)) (fun _ i _ => h.pn - (intOf i).toNat)
    case atStart => exact ⟨0, fun _ => undef, fun _ => undef, fun _ => 0, fun _ => 0, Nat.zero_le _, rfl, hide (fun j hj => absurd hj (Nat.not_lt_zero _)), hide (PartsP.nil _ _ _ _ _ _ _), hide (Below.refl _ _)⟩
    case round =>
      obtain ⟨k, VB, VE, lo, hi, hk, rfl, Hall, HP, HB⟩ := hrel
      have HW := hide (hb0.trans (HB.out.mono (by omega)))
      have b1 := b0.below HB.out (by omega)
      have bR1 := bR.below HB.out (by omega)
      have c3 := b1.cell 3
      simp at c3
      have hwr : w.heap.size + 2 ≤ wr.heap.size := by have := HB.out.size; omega
      by_cases hlt : k < h.pn
      · obtain ⟨hat, hsub⟩ := hs k hlt
        have hpa := hh.pa (by omega)
        have hat' := hat.below HW.out (hh.pl (by omega))
        have q0 := hat'.c0
        have q1 := hat'.c1
        have q2 := hat'.c2
        have q3 := hat'.c3
        have hki : (k : Int) < (h.pn : Int) := by omega
        have HI := hide (hsub.grown HW.out)
        have hwk := hsw k hlt
        go_wp2_with fail
        go_at_call 68
        refine (IH.out k _ HI.out hwk).mono ?_
        rintro r w1 ⟨hans, hb1⟩
        have hB1 := hide (HB.out.trans (hb1.mono hwr))
        have HW1 := hide (HW.out.trans (hb1.mono HW.out.size))
        have bR2 := bR1.below hb1 bR1.lt
        have hs1 := hb1.size
        rcases hans with ⟨herr, vb, ve, rfl, htab⟩ | ⟨herr, rfl⟩
        · obtain ⟨gB, cB, gE, cE, rfl, rfl⟩ := tabs_forms htab
          have HP1 := hide (HP.out.below hb1)
          have hvo : ∀ g, Value.ownBlock u4 = some g → g < wr.heap.size := fun g hg => (HP.out.row.lt g hg).2
          have HE := hide herr
          have HTab := hide htab
          clear hb1 HI q0 q1 q2 q3 hat hat' hsub bR1 b1 HW htab herr c3
          generalize hsz2 : (sub k).built.size = sz at *
          generalize hel2 : (sub k).built.el = el at *
          have Hsz := hide hsz2
          have Hel := hide hel2
          clear hsz2 hel2
          go_wp2_with (at_builtin; refine wpList_append_lies _ rfl _ _ _ rfl (w.heap.size + 2) 24 i0 _ 3 56 Try.underlying144 hi0 hz0 hz1 hz2 rfl (by decide) _ k _ rfl ((HP1.out.row.alloc _).alloc _) ⟨w1.heap.size + 1, 0, none⟩ 1 1 [.int .i64 (sz : Int), .slice gB sz cB, .slice gE el cE] rfl rfl ?c1 ?c2 (by decide) ?c3 ?c4 ?c5 _ rfl ?_)
          all_goals try (case c1 => exact World.news_of_block (Blk.new' (by simp)))
          all_goals try (case c2 => simp [Value.oneCell'])
          all_goals try (case c3 => unfold maxLen; omega)
          all_goals try (case c4 => omega)
          all_goals try (case c5 => simp; omega)
          intro g c w2 hown hgrow hat2 hlt2
          have HB2 := hide (((hB1.out.alloc (by omega) _).alloc (by simp; omega) _).trans (grown_below hgrow (fun g hg => (HP1.out.row.lt g hg).1) (by simp; omega)))
          have HP2 := hide (PartsP.push (l := wr.heap.size) (t := w1.heap.size) ((HP1.out.below ((Below.refl _ _).alloc (Nat.le_refl _) (.cells #[.int .i64 (sz : Int), .slice gB sz cB, .slice gE el cE] 24))).below ((Below.refl _ _).alloc (Nat.le_refl _) (.cells #[.int .i64 (sz : Int), .slice gB sz cB, .slice gE el cE] 24))) hwr (by simp; omega) ((HTab.out.below ((Below.refl _ _).alloc (Nat.le_refl _) _)).below ((Below.refl _ _).alloc (Nat.le_refl _) _)) hvo (by rw [Hsz.out]; exact hown) hgrow (by simpa using hat2))
          clear hown hgrow hat2 hlt2 HP1 hB1 HW1 bR2 hvo
          go_wp2
          go_roundw
          case rel =>
            have hn : ∀ j, j < k + 1 → (sub j).err = 0 := fun j hj => by
              by_cases e : j = k
              · subst e; exact HE.out
              · exact Hall.out j (by omega)
            first
            | exact ⟨k + 1, _, _, _, _, by omega, by go_num, hide hn, HP2, HB2⟩
            | (rw [← hpa]; (repeat apply Exists.intro); exact ⟨⟨k + 1, _, _, _, _, by omega, by go_num, hide hn, HP2, HB2⟩, rfl⟩)
          case measure => simp [intOf]; omega
        · have hne : ((sub k).err != 0) = true := by simp [herr]
          have Hp := hide (err_part hlt Hall.out herr)
          have Hne := hide herr
          clear herr
          have bR3 := bR2.alloc (.cells #[.int .i64 0, .slice none 0 0, .slice none 0 0] 24)
          have d0 := bR3.cell 0
          have d1 := bR3.cell 1
          have d2 := bR3.cell 2
          have df := bR3.frozen
          simp at d0 d1 d2
          go_wp2
          have bR4 := bR3.set3 (.int .i64 0) (.slice none 0 0) (.slice none 0 0)
          have e0 := bR4.cell 0
          have e1 := bR4.cell 1
          have e2 := bR4.cell 2
          unfold Ytjhkadffaephmaa.set3 at e0 e1 e2
          simp at e0 e1 e2
          refine bodyPost_ret (v := .tuple #[.agg #[.int .i64 0, .slice none 0 0, .slice none 0 0], .int .i64 (sub k).err]) (by simp [results, Try.results68, go_sem, e0, e1, e2]) rfl ⟨Or.inr ⟨by rw [Hp.out]; exact Hne.out, by rw [Hp.out]⟩, ?_⟩
          exact below3 (HW1.out.alloc HW1.out.size _) (by omega) _ _ _
      · have hkp : k = h.pn := by omega
        subst hkp
        have hki : (h.pn : Int) ≤ (h.pn : Int) := Int.le_refl _
        have Hr := hide (fun i hi => size_range (Hall.out i hi))
        have Hp := hide (err_head (h := h) (sub := sub) Hall.out)
        have z0 := b1.cell 0
        have z1 := b1.cell 1
        have z2 := b1.cell 2
        simp at z0 z1 z2
        have HHI := hide ((hh.below HW.out (Nat.le_refl _)).mono HW.out.size)
        have d0 := bR1.cell 0
        have d1 := bR1.cell 1
        have d2 := bR1.cell 2
        have df := bR1.frozen
        simp at d0 d1 d2
        have bR4 := bR1.set3 (.int .i64 0) (.slice none 0 0) (.slice none 0 0)
        have e0 := bR4.cell 0
        have e1 := bR4.cell 1
        have e2 := bR4.cell 2
        unfold Ytjhkadffaephmaa.set3 at e0 e1 e2
        simp at e0 e1 e2
        have hel := hh.elen
        unfold maxLen at hel
        have HBe := hide (below3 HW.out (show w.heap.size ≤ w.heap.size + 1 by omega) (.int .i64 0) (.slice none 0 0) (.slice none 0 0))
        by_cases kk : h.kind = 1 ∨ h.kind = 2 ∨ h.kind = 3 ∨ h.kind = 4
        · have HBd := hide (fun n => below3 (below_drewN HW.out n) (show w.heap.size ≤ w.heap.size + 1 by omega) (.int .i64 0) (.slice none 0 0) (.slice none 0 0))
          have HEd := hide (fun n => (bR1.drewN n).set3 (.int .i64 0) (.slice none 0 0) (.slice none 0 0))
          have E0 := fun n => (HEd.out n).cell 0
          have E1 := fun n => (HEd.out n).cell 1
          have E2 := fun n => (HEd.out n).cell 2
          unfold Ytjhkadffaephmaa.set3 at E0 E1 E2
          simp at E0 E1 E2
          obtain ⟨ga, cap, hv4⟩ : ∃ ga cap, u4 = .slice ga h.pn cap := by
            rcases Go.Joins.ownsRow_forms HP.out.row with ⟨e, e'⟩ | ⟨gb, cap, e⟩
            · exact ⟨none, 0, by rw [e, e']⟩
            · exact ⟨_, _, e⟩
          subst hv4
          by_cases k3 : h.kind = 3
          · have f1 : (h.kind == 1) = false := by simp [k3]
            have f2 : (h.kind == 2) = false := by simp [k3]
            have f3 : (h.kind == 3) = true := by simp [k3]
            have he : PlanM.err (.mk h sub) = pairErr h (fun j => (sub j).size) (fun j => (sub j).edges) := by rw [Hp.out]; unfold headErr; rw [if_neg (by omega), if_pos k3]
            have hbu : PlanM.built (.mk h sub) = pairN (sub 0).built (sub 1).built := by simp only [PlanM.built, if_pos k3]
            by_cases g1 : h.pn = 2
            · have f5 : ((h.pn : Int) != 2) = false := by simp [g1]
              by_cases g2 : h.n = 0
              · have f6 : ((h.n : Int) != 0) = false := by simp [g2]
                by_cases g3 : h.en = 0
                · have f7 : (h.en : Int) ≤ 0 := by omega
                  have f7' : h.en ≤ 0 := by omega
                  obtain ⟨o0, zz0, gg0⟩ := built_ok (Hall.out 0 (by omega)) (hsw 0 (by omega))
                  obtain ⟨o1, zz1, gg1⟩ := built_ok (Hall.out 1 (by omega)) (hsw 1 (by omega))
                  have T0 := HP.out.tabs 0 (by omega)
                  have T1 := HP.out.tabs 1 (by omega)
                  obtain ⟨m0, eb0, ee0, l0, in0⟩ := tabs_mats T0 o0
                  obtain ⟨m1, eb1, ee1, l1, in1⟩ := tabs_mats T1 o1
                  have lB0 : m0.B.t.len = (sub 0).built.size := by rw [l0.B]; rfl
                  have lE0 : m0.E.t.len = (sub 0).built.el := by rw [l0.E]; rfl
                  have lB1 : m1.B.t.len = (sub 1).built.size := by rw [l1.B]; rfl
                  have lE1 : m1.E.t.len = (sub 1).built.el := by rw [l1.E]; rfl
                  obtain ⟨g, cap', hf, hg0, hg1⟩ := HP.out.row.form (by omega)
                  injection hf with hf1 hf2 hf3
                  subst hf1
                  have row := HP.out.row
                  have cA := algL_get (fun j => (sub j).built.size) VB VE (k := h.pn) (i := 0) (by omega)
                  have cB := algL_get (fun j => (sub j).built.size) VB VE (k := h.pn) (i := 1) (by omega)
                  have r0 := (row.cellAt 0 (by omega)).trans cA.1
                  have r1 := (row.cellAt 1 (by omega)).trans cA.2.1
                  have r2 := (row.cellAt 2 (by omega)).trans cA.2.2
                  have r3 := (row.cellAt 3 (by omega)).trans cB.1
                  have r4 := (row.cellAt 4 (by omega)).trans cB.2.1
                  have r5 := (row.cellAt 5 (by omega)).trans cB.2.2
                  rw [eb0, Mat.val, lB0] at r1
                  rw [ee0, Mat.val, lE0] at r2
                  rw [eb1, Mat.val, lB1] at r4
                  rw [ee1, Mat.val, lE1] at r5
                  have hpn0 : (0 : Int) < (h.pn : Int) := by omega
                  have hpn0' : 0 < h.pn := by omega
                  have hpn1 : (1 : Int) < (h.pn : Int) := by omega
                  have gl0 := o0.lo
                  have gl1 := o1.lo
                  have gh0 := o0.hi
                  have gh1 := o1.hi
                  have hxm : ((sub 0).built.size - 1 : Int) * ((sub 1).built.size - 1 : Int) = ((((sub 0).built.size - 1) * ((sub 1).built.size - 1) : Nat) : Int) := by
                    rw [Int.natCast_mul, Int.ofNat_sub (by omega), Int.ofNat_sub (by omega)]; rfl
                  have hP : ((sub 0).built.size - 1) * ((sub 1).built.size - 1) ≤ 23 * 23 := Nat.mul_le_mul (by omega) (by omega)
                  have e4 : (sub 0).built.el ≠ (sub 1).built.el → PlanM.err (.mk h sub) = 4 := fun hn => by
                    rw [he]; unfold pairErr; rw [if_neg (by omega), if_neg (by omega), if_neg (by omega), if_pos (by rw [gg0, gg1] at hn; exact hn)]
                  have e5 : (sub 0).built.el = (sub 1).built.el → 24 < ((sub 0).built.size - 1) * ((sub 1).built.size - 1) + 1 → PlanM.err (.mk h sub) = 2 := fun hn hs' => by
                    rw [he]; unfold pairErr; rw [if_neg (by omega), if_neg (by omega), if_neg (by omega), if_neg (by rw [gg0, gg1] at hn; simp [hn]), if_pos (by rw [zz0, zz1] at hs'; exact hs')]
                  have e6 : (sub 0).built.el = (sub 1).built.el → ¬ 24 < ((sub 0).built.size - 1) * ((sub 1).built.size - 1) + 1 → PlanM.err (.mk h sub) = 0 := fun hn hs' => by
                    rw [he]; unfold pairErr; rw [if_neg (by omega), if_neg (by omega), if_neg (by omega), if_neg (by rw [gg0, gg1] at hn; simp [hn]), if_neg (by rw [zz0, zz1] at hs'; exact hs')]
                  have HPA := hide (fun (hn : (sub 0).built.el = (sub 1).built.el) (hs' : ((sub 0).built.size - 1) * ((sub 1).built.size - 1) + 1 ≤ 24) (W : World) (hb : Below wr.heap.size wr W) => refPair_any m0 m1 _ _ W l0 l1 ((in0.below hb (Nat.le_refl _)).mono hb.size) ((in1.below hb (Nat.le_refl _)).mono hb.size) o0 o1 hn hs')
                  have ls0 := l0.size
                  have ls1 := l1.size
                  simp only [AlgM.val, Mat.val, lB0, lE0, lB1, lE1, ls0, ls1] at HPA
                  clear T0 T1 eb0 ee0 eb1 ee1 l0 l1 in0 in1 lB0 lE0 lB1 lE1 row cA cB o0 o1 zz0 zz1 gg0 gg1 gl0 gl1 he kk k3 g1 g2 g3 ls0 ls1
                  have Hbu := hide hbu
                  clear hbu
                  generalize (sub 0).built.el = el0 at *
                  generalize (sub 1).built.el = el1 at *
                  generalize hX0 : (sub 0).built = X0 at *
                  generalize hX1 : (sub 1).built = X1 at *
                  clear hX0 hX1
                  by_cases g4 : el0 = el1
                  · have f8 : ((el0 : Int) != (el1 : Int)) = false := by simp [g4]
                    by_cases g5 : 24 < (X0.size - 1) * (X1.size - 1) + 1
                    · have Hx := hide (e5 g4 g5)
                      generalize (X0.size - 1) * (X1.size - 1) = pp at *
                      have f9 : (24 : Int) < (pp : Int) + 1 := by omega
                      clear e4 e5 e6 g4 g5 HPA
                      go_wp2_with fail
                      go_quiet (fail)
                      go_wp2_with fail
                      go_quiet (fail)
                      go_wp2
                      exact bodyPost_ret (v := .tuple #[.agg #[.int .i64 0, .slice none 0 0, .slice none 0 0], .int .i64 2]) (by simp [results, Try.results68, go_sem, E0, E1, E2]) rfl ⟨Or.inr ⟨by rw [Hx.out]; decide, by rw [Hx.out]⟩, HBd.out _⟩
                    · have Hx := hide (e6 g4 g5)
                      have HPB := hide (HPA.out g4 (by omega))
                      generalize hpp : (X0.size - 1) * (X1.size - 1) = pp at *
                      have f9 : (pp : Int) + 1 ≤ 24 := by omega
                      clear e4 e5 e6 g4 HPA
                      go_wp2_with fail
                      go_quiet (fail)
                      go_wp2_with fail
                      go_quiet (fail)
                      go_wp2_with fail
                      have HK : Hid (∀ w' : World, Below wr.heap.size wr w' → w'.cell? ⟨g, 0, none⟩ = some (.int .i64 (X0.size : Int)) ∧ w'.cell? ⟨g, 1, none⟩ = some (.slice m0.B.ga X0.size m0.B.cap) ∧ w'.cell? ⟨g, 2, none⟩ = some (.slice m0.E.ga el0 m0.E.cap) ∧ w'.cell? ⟨g, 3, none⟩ = some (.int .i64 (X1.size : Int)) ∧ w'.cell? ⟨g, 4, none⟩ = some (.slice m1.B.ga X1.size m1.B.cap) ∧ w'.cell? ⟨g, 5, none⟩ = some (.slice m1.E.ga el1 m1.E.cap)) := hide (fun w' hb => ⟨(hb.cell (p := ⟨g, 0, none⟩) hg1).trans r0, (hb.cell (p := ⟨g, 1, none⟩) hg1).trans r1, (hb.cell (p := ⟨g, 2, none⟩) hg1).trans r2, (hb.cell (p := ⟨g, 3, none⟩) hg1).trans r3, (hb.cell (p := ⟨g, 4, none⟩) hg1).trans r4, (hb.cell (p := ⟨g, 5, none⟩) hg1).trans r5⟩)
                      have HK3 : Hid (∀ (w' : World) (v0 v1 v2 : Value), Below wr.heap.size wr w' → (((w'.setCell ⟨w.heap.size + 1, 0, none⟩ v0).setCell ⟨w.heap.size + 1, 1, none⟩ v1).setCell ⟨w.heap.size + 1, 2, none⟩ v2).cell? ⟨g, 0, none⟩ = some (.int .i64 (X0.size : Int)) ∧ (((w'.setCell ⟨w.heap.size + 1, 0, none⟩ v0).setCell ⟨w.heap.size + 1, 1, none⟩ v1).setCell ⟨w.heap.size + 1, 2, none⟩ v2).cell? ⟨g, 1, none⟩ = some (.slice m0.B.ga X0.size m0.B.cap) ∧ (((w'.setCell ⟨w.heap.size + 1, 0, none⟩ v0).setCell ⟨w.heap.size + 1, 1, none⟩ v1).setCell ⟨w.heap.size + 1, 2, none⟩ v2).cell? ⟨g, 2, none⟩ = some (.slice m0.E.ga el0 m0.E.cap) ∧ (((w'.setCell ⟨w.heap.size + 1, 0, none⟩ v0).setCell ⟨w.heap.size + 1, 1, none⟩ v1).setCell ⟨w.heap.size + 1, 2, none⟩ v2).cell? ⟨g, 3, none⟩ = some (.int .i64 (X1.size : Int)) ∧ (((w'.setCell ⟨w.heap.size + 1, 0, none⟩ v0).setCell ⟨w.heap.size + 1, 1, none⟩ v1).setCell ⟨w.heap.size + 1, 2, none⟩ v2).cell? ⟨g, 4, none⟩ = some (.slice m1.B.ga X1.size m1.B.cap) ∧ (((w'.setCell ⟨w.heap.size + 1, 0, none⟩ v0).setCell ⟨w.heap.size + 1, 1, none⟩ v1).setCell ⟨w.heap.size + 1, 2, none⟩ v2).cell? ⟨g, 5, none⟩ = some (.slice m1.E.ga el1 m1.E.cap)) := hide (fun w' v0 v1 v2 hb => by
                        have hne : g ≠ w.heap.size + 1 := by omega
                        simp only [cell_other hne]
                        exact HK.out w' hb)
                      have hN : ∀ n, Below wr.heap.size wr (wr.drewN n) := fun n => below_drewN (Below.refl _ _) n
                      have hNd : ∀ n, Below wr.heap.size wr ((wr.drewN n).drew) := fun n => (hN n).trans ⟨rfl, rfl, rfl, Nat.le_refl _, fun _ _ => rfl⟩
                      have hNq : ∀ a b, Below wr.heap.size wr (((wr.drewN a).drewN b).drew) := fun a b => (below_drewN (hN a) b).trans ⟨rfl, rfl, rfl, Nat.le_refl _, fun _ _ => rfl⟩
                      go_region_held3 (fun w' => w'.cell? ⟨g, 0, none⟩ = some (.int .i64 (X0.size : Int)) ∧ w'.cell? ⟨g, 1, none⟩ = some (.slice m0.B.ga X0.size m0.B.cap) ∧ w'.cell? ⟨g, 2, none⟩ = some (.slice m0.E.ga el0 m0.E.cap) ∧ w'.cell? ⟨g, 3, none⟩ = some (.int .i64 (X1.size : Int)) ∧ w'.cell? ⟨g, 4, none⟩ = some (.slice m1.B.ga X1.size m1.B.cap) ∧ w'.cell? ⟨g, 5, none⟩ = some (.slice m1.E.ga el1 m1.E.cap)) (first | exact HK.out _ (hN _) | exact HK.out _ (hNd _) | exact HK.out _ (hNq _ _) | exact HK.out _ hB5 | exact HK3.out _ _ _ _ hB5)
                        (first
                          | (go_at_call 109; refine (HPB.out _ (hN _)).mono ?_; rintro r w5 ⟨⟨vb, ve, rfl, htab⟩, hb5⟩; obtain ⟨gB, cB, gE, cE, rfl, rfl⟩ := tabs_forms htab; have hB5 := (hN _).trans (hb5.mono (Nat.le_refl _)); have bR5 := bR1.below hB5 bR1.lt; have y0 := bR5.cell 0; have y1 := bR5.cell 1; have y2 := bR5.cell 2; have yf := bR5.frozen; simp at y0 y1 y2)
                          | (go_at_call 109; refine (HPB.out _ (hNq _ _)).mono ?_; rintro r w5 ⟨⟨vb, ve, rfl, htab⟩, hb5⟩; obtain ⟨gB, cB, gE, cE, rfl, rfl⟩ := tabs_forms htab; have hB5 := (hNq _ _).trans (hb5.mono (Nat.le_refl _)); have bR5 := bR1.below hB5 bR1.lt; have y0 := bR5.cell 0; have y1 := bR5.cell 1; have y2 := bR5.cell 2; have yf := bR5.frozen; simp at y0 y1 y2))
                      all_goals
                        have htw : w.heap.size + 1 < wr.heap.size := by omega
                        have bR6 := bR5.set3 (.int .i64 ((pairN X0 X1).size : Int)) (.slice gB (pairN X0 X1).size cB) (.slice gE (pairN X0 X1).el cE)
                        have s0 := bR6.cell 0
                        have s1 := bR6.cell 1
                        have s2 := bR6.cell 2
                        unfold Ytjhkadffaephmaa.set3 at s0 s1 s2
                        simp at s0 s1 s2
                        have HA : Hid (RefAns (.mk h sub) w.heap.size (.returned (.tuple #[.agg #[.int .i64 ((pairN X0 X1).size : Int), .slice gB (pairN X0 X1).size cB, .slice gE (pairN X0 X1).el cE], .int .i64 0])) (set3 w5 (w.heap.size + 1) (.int .i64 ((pairN X0 X1).size : Int)) (.slice gB (pairN X0 X1).size cB) (.slice gE (pairN X0 X1).el cE))) := hide (Or.inl ⟨Hx.out, _, _, by rw [Hbu.out], by rw [Hbu.out]; exact (tabs_set3 htab (by simpa using htw) _ _ _).lower (by simp; omega)⟩)
                        have HB6 := hide (below3 (HW.out.trans (hB5.mono (by omega))) (show w.heap.size ≤ w.heap.size + 1 by omega) (.int .i64 ((pairN X0 X1).size : Int)) (.slice gB (pairN X0 X1).size cB) (.slice gE (pairN X0 X1).el cE))
                        clear htab hb5 hB5 bR5 bR6 y0 y1 y2 yf HK HK3 HPB r0 r1 r2 r3 r4 r5 e0 e1 e2 E0 E1 E2
                        go_wp2
                        exact bodyPost_ret (v := .tuple #[.agg #[.int .i64 ((pairN X0 X1).size : Int), .slice gB (pairN X0 X1).size cB, .slice gE (pairN X0 X1).el cE], .int .i64 0]) (by simp [results, Try.results68, go_sem, s0, s1, s2]) rfl ⟨HA.out, HB6.out⟩
                  · have f8 : ((el0 : Int) != (el1 : Int)) = true := by simp; omega
                    have Hx := hide (e4 g4)
                    clear e4 e5 e6 g4 HPA hxm hP
                    go_wp2_with fail
                    go_quiet (fail)
                    go_wp2
                    exact bodyPost_ret (v := .tuple #[.agg #[.int .i64 0, .slice none 0 0, .slice none 0 0], .int .i64 4]) (by simp [results, Try.results68, go_sem, E0, E1, E2]) rfl ⟨Or.inr ⟨by rw [Hx.out]; decide, by rw [Hx.out]⟩, HBd.out _⟩
                · have f7 : (0 : Int) < (h.en : Int) := by omega
                  have f7' : 0 < h.en := by omega
                  have Hx : Hid (PlanM.err (.mk h sub) = 1) := hide (by rw [he]; unfold pairErr; rw [if_neg (by omega), if_neg (by omega), if_pos g3])
                  clear kk k3 g1 g2 g3 he hbu
                  go_wp2
                  exact bodyPost_ret (v := .tuple #[.agg #[.int .i64 0, .slice none 0 0, .slice none 0 0], .int .i64 1]) (by simp [results, Try.results68, go_sem, e0, e1, e2]) rfl ⟨Or.inr ⟨by rw [Hx.out]; decide, by rw [Hx.out]⟩, HBe.out⟩
              · have f6 : ((h.n : Int) != 0) = true := by simp [g2]
                have Hx : Hid (PlanM.err (.mk h sub) = 3) := hide (by rw [he]; unfold pairErr; rw [if_neg (by omega), if_pos g2])
                clear kk k3 g1 g2 he hbu
                go_wp2
                exact bodyPost_ret (v := .tuple #[.agg #[.int .i64 0, .slice none 0 0, .slice none 0 0], .int .i64 3]) (by simp [results, Try.results68, go_sem, e0, e1, e2]) rfl ⟨Or.inr ⟨by rw [Hx.out]; decide, by rw [Hx.out]⟩, HBe.out⟩
            · have f5 : ((h.pn : Int) != 2) = true := by simp; omega
              have Hx : Hid (PlanM.err (.mk h sub) = 1) := hide (by rw [he]; unfold pairErr; rw [if_pos g1])
              clear kk k3 g1 he hbu
              go_wp2
              exact bodyPost_ret (v := .tuple #[.agg #[.int .i64 0, .slice none 0 0, .slice none 0 0], .int .i64 1]) (by simp [results, Try.results68, go_sem, e0, e1, e2]) rfl ⟨Or.inr ⟨by rw [Hx.out]; decide, by rw [Hx.out]⟩, HBe.out⟩
          by_cases k4 : h.kind = 4
          · have f1 : (h.kind == 1) = false := by simp [k4]
            have f2 : (h.kind == 2) = false := by simp [k4]
            have f3 : (h.kind == 3) = false := by simp [k4]
            have f4 : (h.kind == 4) = true := by simp [k4]
            have he : PlanM.err (.mk h sub) = filtErr h (fun j => (sub j).size) (fun j => (sub j).edges) := by rw [Hp.out]; unfold headErr; rw [if_neg (by omega), if_neg (by omega), if_pos k4]
            have hbu : PlanM.built (.mk h sub) = filtN (sub 0).built h.evN := by simp only [PlanM.built, if_neg k3, if_pos k4]
            by_cases g1 : h.pn = 1
            · have f5 : ((h.pn : Int) != 1) = false := by simp [g1]
              by_cases g2 : h.n = 0
              · have f6 : ((h.n : Int) != 0) = false := by simp [g2]
                obtain ⟨o0, zz0, gg0⟩ := built_ok (Hall.out 0 (by omega)) (hsw 0 (by omega))
                have T0 := HP.out.tabs 0 (by omega)
                have Ttop := HP.out.top 0 (by omega)
                obtain ⟨gB, cB, gE, cE, eb0, ee0⟩ := tabs_forms T0
                obtain ⟨g, cap', hf, hg0, hg1⟩ := HP.out.row.form (by omega)
                injection hf with hf1 hf2 hf3
                subst hf1
                have row := HP.out.row
                have cA := algL_get (fun j => (sub j).built.size) VB VE (k := h.pn) (i := 0) (by omega)
                have r0 := (row.cellAt 0 (by omega)).trans cA.1
                have r1 := (row.cellAt 1 (by omega)).trans cA.2.1
                have r2 := (row.cellAt 2 (by omega)).trans cA.2.2
                rw [eb0] at r1
                rw [ee0] at r2
                have hpn0 : (0 : Int) < (h.pn : Int) := by omega
                have hpn0' : 0 < h.pn := by omega
                by_cases g3 : h.en = (sub 0).built.el
                · have f7 : ((h.en : Int) != ((sub 0).built.el : Int)) = false := by simp [g3]
                  obtain ⟨mid, hlm, hmh, TB, TE⟩ := T0
                  have ef : within h.ev h.en 0 (2 ^ (sub 0).built.size - 1) = false → PlanM.err (.mk h sub) = 3 := fun hw => by
                    rw [he]; unfold filtErr; rw [if_neg (by omega), if_neg (by omega), if_neg (by rw [gg0] at g3; simp [g3]), if_pos (by rw [zz0] at hw; exact hw)]
                  have et : within h.ev h.en 0 (2 ^ (sub 0).built.size - 1) = true → PlanM.err (.mk h sub) = 0 := fun hw => by
                    rw [he]; unfold filtErr; rw [if_neg (by omega), if_neg (by omega), if_neg (by rw [gg0] at g3; simp [g3]), if_neg (by rw [zz0] at hw; rw [hw]; simp)]
                  have lo3 := o0.lo
                  have hi24 := o0.hi
                  have hel8 := o0.el
                  have Hbu := hide hbu
                  have Hok := hide o0
                  have Hef := hide ef
                  have Het := hide et
                  rw [eb0] at TB
                  rw [ee0] at TE
                  have HTB0 := hide TB
                  have HTE0 := hide TE
                  have Hg3 := hide g3
                  clear hbu o0 ef et TB TE g3 kk k3 k4 g1 g2 he eb0 ee0 row cA zz0 gg0 hlt E0 E1 E2 e0 e1 e2
                  generalize (sub 0).built = X0 at *
                  generalize hS : X0.size = S at *
                  have HS := hide hS
                  clear hS
                  obtain ⟨w6, rfl⟩ : ∃ w6, w6 = wr := ⟨wr, rfl⟩
                  have b9 := Blk.new w6 #[.int .i64 (S : Int), .slice gB S cB, .slice gE X0.el cE] 24
                  have hv9 : Below w6.heap.size w6 (w6.alloc (.cells #[.int .i64 (S : Int), .slice gB S cB, .slice gE X0.el cE] 24)) := (Below.refl _ w6).alloc (Nat.le_refl _) _
                  have z2' : ∀ o, (w6.alloc o).cell? ⟨w.heap.size, 2, none⟩ = some (.slice h.eg h.en h.ec) := fun o => (b1.alloc o).cell 2
                  have hS24 : (S : Int) ≤ 24 := by omega
                  go_wp2_with fail
                  generalize w6.alloc (.cells #[.int .i64 (S : Int), .slice gB S cB, .slice gE X0.el cE] 24) = V at *
                  have q0 := b9.cell 0
                  have q1 := b9.cell 1
                  have q2 := b9.cell 2
                  simp at q0 q1 q2
                  go_loop [10, 11] (fun al i => ∃ k : Nat, k ≤ S ∧ i = .int .i64 k ∧ al = .int .i64 ((2 ^ k : Nat) : Int)) (fun _ i => S - (intOf i).toNat)
                  case atStart => exact ⟨0, Nat.zero_le _, rfl, rfl⟩
                  case round =>
                    obtain ⟨k, hk, rfl, rfl⟩ := hrel
                    have hT24 : 2 ^ k ≤ 2 ^ 24 := Nat.pow_le_pow_right (by omega) (by omega)
                    by_cases hlt : k < S
                    · have hki : (k : Int) < (S : Int) := by omega
                      have hnx := hide (show 2 ^ (k + 1) = 2 * 2 ^ k by rw [Nat.pow_succ]; omega)
                      generalize hTT : 2 ^ k = T at *
                      have hTi : (T : Int) ≤ 16777216 := by omega
                      clear hTT
                      go_wp2
                      go_round
                      case rel =>
                        first
                        | exact ⟨k + 1, by omega, by go_num, by rw [hnx.out]; go_num⟩
                        | ((repeat apply Exists.intro); exact ⟨⟨k + 1, by omega, by go_num, by rw [hnx.out]; go_num⟩, rfl⟩)
                      case measure => simp [intOf]; omega
                    · have hke : S = k := by omega
                      subst hke
                      have hki : (S : Int) ≤ (S : Int) := Int.le_refl _
                      have hpw := hide (show ((2 ^ S : Nat) : Int) = (2 : Int) ^ S by simp)
                      have hT0 : 1 ≤ 2 ^ S := Nat.one_le_two_pow
                      generalize hT : 2 ^ S = T at *
                      have hT1 : 1 ≤ T := hT0
                      have hTi : (T : Int) ≤ 16777216 := by omega
                      have hT1i : (1 : Int) ≤ (T : Int) := by omega
                      have HTT := hide hT
                      clear hT
                      go_wp2_with fail
                      go_loopw [12] (fun i wx => ∃ k : Nat, k ≤ h.en ∧ i = .int .i64 k ∧ Hid (∀ j, j < k → 0 ≤ h.ev j ∧ h.ev j ≤ (T : Int) - 1) ∧ Hid (wx = V)) (fun i _ => h.en - (intOf i).toNat)
                      case atStart => exact ⟨0, Nat.zero_le _, rfl, hide (fun j hj => absurd hj (Nat.not_lt_zero _)), hide rfl⟩
                      case round =>
                        obtain ⟨k, hk, rfl, Hev, hq⟩ := hrel
                        have hq := hq.out.symm
                        subst hq
                        have b1x := b1.below hv9 b1.lt
                        have x2 := b1x.cell 2
                        simp at x2
                        by_cases hlt : k < h.en
                        · have hki : (k : Int) < (h.en : Int) := by omega
                          have hea := hh.ea (by omega)
                          have hec := (hv9.cell (p := ⟨h.eb, h.eo + k, none⟩) (Nat.lt_of_lt_of_le (hh.el (by omega)) HW.out.size)).trans (HHI.out.ecell k hlt)
                          have HBk := hide (fun (W : World) => between_any (h.ev k) 0 ((T : Int) - 1) W)
                          by_cases hin1 : 0 ≤ h.ev k ∧ h.ev k ≤ (T : Int) - 1
                          · rw [show (decide ((0 : Int) ≤ h.ev k) && decide (h.ev k ≤ (T : Int) - 1)) = true by simp [hin1]] at HBk
                            have Hin := hide hin1
                            clear hin1
                            go_wp2_with (go_at_call 56; refine (HBk.out _).mono ?_; rintro r w' ⟨rfl, hq⟩; have hq := hq.symm; subst hq)
                            go_roundw
                            case rel =>
                              have hn : ∀ j, j < k + 1 → 0 ≤ h.ev j ∧ h.ev j ≤ (T : Int) - 1 := fun j hj => by
                                by_cases e : j = k
                                · subst e; exact Hin.out
                                · exact Hev.out j (by omega)
                              first
                              | exact ⟨k + 1, by omega, by go_num, hide hn, hide rfl⟩
                              | ((try rw [← hea]); (repeat apply Exists.intro); exact ⟨⟨k + 1, by omega, by go_num, hide hn, by first | exact hide rfl | exact trivial⟩, rfl⟩)
                            case measure => simp [intOf]; omega
                          · rw [show (decide ((0 : Int) ≤ h.ev k) && decide (h.ev k ≤ (T : Int) - 1)) = false by simp; omega] at HBk
                            have Hx : Hid (PlanM.err (.mk h sub) = 3) := hide (Hef.out (within_false hlt (by rw [← hpw.out]; omega)))
                            clear hin1
                            have bRx := bR1.below hv9 bR1.lt
                            have y0 := bRx.cell 0
                            have y1 := bRx.cell 1
                            have y2 := bRx.cell 2
                            have yf := bRx.frozen
                            have bRy := bRx.set3 (.int .i64 0) (.slice none 0 0) (.slice none 0 0)
                            have s0 := bRy.cell 0
                            have s1 := bRy.cell 1
                            have s2 := bRy.cell 2
                            unfold Ytjhkadffaephmaa.set3 at s0 s1 s2
                            simp at y0 y1 y2 s0 s1 s2
                            have HB6 := hide (below3 (HW.out.trans (hv9.mono HW.out.size)) (show w.heap.size ≤ w.heap.size + 1 by omega) (.int .i64 0) (.slice none 0 0) (.slice none 0 0))
                            go_wp2_with (go_at_call 56; refine (HBk.out _).mono ?_; rintro r w' ⟨rfl, hq⟩; have hq := hq.symm; subst hq)
                            exact bodyPost_ret (v := .tuple #[.agg #[.int .i64 0, .slice none 0 0, .slice none 0 0], .int .i64 3]) (by simp [results, Try.results68, go_sem, s0, s1, s2]) rfl ⟨Or.inr ⟨by rw [Hx.out]; decide, by rw [Hx.out]⟩, HB6.out⟩
                        · have hke : k = h.en := by omega
                          have hki : (h.en : Int) ≤ (k : Int) := by omega
                          have hev : ∀ j, j < h.en → 0 ≤ h.ev j ∧ h.ev j ≤ (T : Int) - 1 := fun j hj => Hev.out j (by omega)
                          have Hx : Hid (PlanM.err (.mk h sub) = 0) := hide (Het.out (within_iff.2 (by rw [← hpw.out]; exact hev)))
                          have HEV := hide hev
                          clear hke hev Hev
                          obtain ⟨FE, hFE⟩ : ∃ FE : Nat → Nat → Int, FE = fun a b => (((filtN X0 h.evN).edge a b : Nat) : Int) := ⟨_, rfl⟩
                          obtain ⟨XE, hXE⟩ : ∃ XE : Nat → Nat → Int, XE = fun a b => ((X0.edge a b : Nat) : Int) := ⟨_, rfl⟩
                          obtain ⟨Zf, hZf⟩ : ∃ Zf : Nat → Nat → Nat → Nat → Int, Zf = fun i k r c => if r < i ∨ (r = i ∧ c < k) then FE r c else XE r c := ⟨_, rfl⟩
                          have HFE := hide hFE
                          have HXE := hide hXE
                          have HZf := hide hZf
                          clear hFE hXE hZf
                          have HTE1 := hide (show OwnTab mid (hi 0) (.slice gE X0.el cE) X0.el S (Zf 0 0) V from (HTE0.out.below hv9).congr (fun r _ j _ => by simp only [HZf.out]; simp only [HXE.out]; simp))
                          have HTB1 := hide (HTB0.out.below hv9)
                          have hml : w.heap.size + 2 ≤ mid := by have := Ttop.1; omega
                          have hhi6 : hi 0 ≤ w6.heap.size := Ttop.2
                          have hmr := hide (show mid ≤ hi 0 from hmh)
                          go_wp2_with fail
                          go_loopw [13] (fun i wx => ∃ k : Nat, k ≤ h.en ∧ i = .int .i64 k ∧ Hid (OwnTab mid (hi 0) (.slice gE X0.el cE) X0.el S (Zf k 0) wx) ∧ Hid (OwnTab (lo 0) mid (.slice gB S cB) S S (fun r c => (X0.best r c : Int)) wx) ∧ Hid (Blk wx w6.heap.size #[.int .i64 (S : Int), .slice gB S cB, .slice gE X0.el cE] 24) ∧ Hid (Below mid V wx)) (fun i _ => h.en - (intOf i).toNat)
                          case atStart => exact ⟨0, Nat.zero_le _, rfl, HTE1, HTB1, hide b9, hide (Below.refl _ _)⟩
                          case round =>
                            obtain ⟨i, hi', rfl, HTE, HTB, H9, HBV⟩ := hrel
                            obtain ⟨wx, rfl⟩ : ∃ wx, wx = wr := ⟨wr, rfl⟩
                            clear x2 b1x q0 q1 q2
                            have hSee : Hid (∀ W' : World, Below mid V W' → Blk W' w.heap.size #[.int .i64 h.kind, .int .i64 h.n, .slice h.eg h.en h.ec, .slice h.pg h.pn h.pc] 42 ∧ (∀ i, i < h.en → W'.cell? ⟨h.eb, h.eo + i, none⟩ = some (.int .i64 (h.ev i))) ∧ Blk W' (w.heap.size + 1) #[.int .i64 0, .slice none 0 0, .slice none 0 0] 24) := hide (fun W' hb => by
                              refine ⟨(b1.below hv9 b1.lt).below hb (by omega), fun i hi => ?_, (bR1.below hv9 bR1.lt).below hb (by omega)⟩
                              have hl := hh.el (by omega)
                              rw [hb.cell (p := ⟨h.eb, h.eo + i, none⟩) (show h.eb < mid by omega), hv9.cell (p := ⟨h.eb, h.eo + i, none⟩) (show h.eb < w6.heap.size by have := HW.out.size; omega)]
                              exact HHI.out.ecell i hi)
                            obtain ⟨bp, cev, bR8⟩ := hSee.out wx HBV.out
                            have x2 := bp.cell 2
                            simp at x2
                            by_cases hlt : i < h.en
                            · have hii : (i : Int) < (h.en : Int) := by omega
                              have hea := hh.ea (by omega)
                              have hec := cev i hlt
                              obtain ⟨ev1, ev2⟩ := HEV.out i hlt
                              obtain ⟨v, hv⟩ : ∃ v : Nat, h.ev i = (v : Int) := ⟨(h.ev i).toNat, by omega⟩
                              have hvN : h.evN i = v := by unfold PHead.evN; omega
                              have HvN := hide hvN
                              rw [hv] at hec ev1 ev2
                              have hel0 : i < X0.el := by rw [← Hg3.out]; exact hlt
                              clear hv hvN cev bR8 bp
                              go_wp2_with fail
                              go_loopw [14, 15] (fun m j wy => ∃ k : Nat, k ≤ S ∧ j = .int .i64 k ∧ m = .int .i64 ((v / 2 ^ k : Nat) : Int) ∧ Hid (OwnTab mid (hi 0) (.slice gE X0.el cE) X0.el S (Zf i k) wy) ∧ Hid (OwnTab (lo 0) mid (.slice gB S cB) S S (fun r c => (X0.best r c : Int)) wy) ∧ Hid (Blk wy w6.heap.size #[.int .i64 (S : Int), .slice gB S cB, .slice gE X0.el cE] 24) ∧ Hid (Below mid V wy)) (fun _ j _ => S - (intOf j).toNat)
                              case atStart => exact ⟨0, Nat.zero_le _, rfl, by simp, HTE, HTB, H9, HBV⟩
                              case round =>
                                clear HTE HTB H9 HBV x2 hec
                                obtain ⟨k, hk, rfl, rfl, HTE, HTB, H9, HBV⟩ := hrel
                                have q0 := H9.out.cell 0
                                have q2 := H9.out.cell 2
                                simp at q0 q2
                                by_cases hklt : k < S
                                · have hki : (k : Int) < (S : Int) := by omega
                                  have hq24 : v / 2 ^ k ≤ 16777216 := Nat.le_trans (Nat.div_le_self _ _) (by omega)
                                  have hnx := hide (show v / 2 ^ (k + 1) = v / 2 ^ k / 2 by rw [Nat.pow_succ, Nat.div_div_eq_div_mul])
                                  have htb := Nat.testBit_eq_decide_div_mod_eq (x := v) (i := k)
                                  have hfe : FE i k = if v.testBit k then (S : Int) - 1 else XE i k := by
                                    rw [HFE.out, HXE.out]
                                    show (((if (h.evN i).testBit k then X0.size - 1 else X0.edge i k) : Nat) : Int) = _
                                    rw [HvN.out, HS.out]
                                    split
                                    · omega
                                    · rfl
                                  generalize hqq : v / 2 ^ k = q at *
                                  clear hqq
                                  have hqi : (q : Int) ≤ 16777216 := by omega
                                  by_cases hb : q % 2 = 1
                                  · have fb : ((q : Int) % 2 == 1) = true := by simp; omega
                                    rw [show v.testBit k = true by rw [htb]; simp [hb], if_pos rfl] at hfe
                                    obtain ⟨g, c, t1, t2, t3, t4⟩ := HTE.out
                                    obtain ⟨ge, cE', hf, hge0, hge1⟩ := t1.form (by omega)
                                    injection hf with hf1 hf2 hf3
                                    subst hf1
                                    subst hf3
                                    obtain ⟨u1, u2, u3⟩ := t3 i hel0
                                    have hgi0 := (u1.lt (g i) rfl).1
                                    have hgi1 := (u1.lt (g i) rfl).2
                                    have ce := (t1.cellAt i (by omega)).trans (rowsL_get hel0)
                                    have cr := (u1.cellAt k (by omega)).trans (intsL_get hklt)
                                    have cf := u1.frozenAt k
                                    have ne1 : w6.heap.size ≠ g i := by omega
                                    have ne2 : ge ≠ g i := fun e => u3 (by rw [e]; rfl)
                                    have HK : Hid (∀ n, (wr.drewN n).cell? ⟨w6.heap.size, 2, none⟩ = some (.slice (some ⟨ge, 0, none⟩) X0.el cE) ∧ (wr.drewN n).cell? ⟨ge, i, none⟩ = some (.slice (some ⟨g i, 0, none⟩) S (c i)) ∧ (wr.drewN n).cell? ⟨w6.heap.size, 0, none⟩ = some (.int .i64 (S : Int))) := hide (fun n => ⟨q2, ce, q0⟩)
                                    have HK3 : Hid (∀ n, ((wr.drewN n).setCell ⟨g i, k, none⟩ (.int .i64 ((S : Int) - 1))).cell? ⟨w6.heap.size, 2, none⟩ = some (.slice (some ⟨ge, 0, none⟩) X0.el cE) ∧ ((wr.drewN n).setCell ⟨g i, k, none⟩ (.int .i64 ((S : Int) - 1))).cell? ⟨ge, i, none⟩ = some (.slice (some ⟨g i, 0, none⟩) S (c i)) ∧ ((wr.drewN n).setCell ⟨g i, k, none⟩ (.int .i64 ((S : Int) - 1))).cell? ⟨w6.heap.size, 0, none⟩ = some (.int .i64 (S : Int))) := hide (fun n => by simp only [cell_other ne1, cell_other ne2]; exact ⟨q2, ce, q0⟩)
                                    have HN2 := hide (fun n => (OwnTab.set (w := wr.drewN n) (Z := Zf i k) t1 t2 t3 t4 (j := k) hel0 ((S : Int) - 1)).congr (Z' := Zf i (k + 1)) (fun r _ j _ => by
                                      simp only [HZf.out]
                                      by_cases e : r = i ∧ j = k
                                      · rw [if_pos e, if_pos (by omega), e.1, e.2, hfe]
                                      · rw [if_neg e]
                                        by_cases e2 : r < i ∨ (r = i ∧ j < k)
                                        · rw [if_pos e2, if_pos (by omega)]
                                        · rw [if_neg e2, if_neg (by omega)]))
                                    have hgr : ∀ n, (wr.drewN n).grownBy ((wr.drewN n).setCell ⟨g i, k, none⟩ (.int .i64 ((S : Int) - 1))) (some (g i)) := fun n => ⟨rfl, rfl, rfl, by simp, fun j _ hne => by
                                      show (wr.heap.modify (g i) _)[j]? = _
                                      rw [Array.getElem?_modify, if_neg (fun e => hne (by rw [e]))]; rfl⟩
                                    have HB2 := hide (fun n => OwnTab.kept (w := wr.drewN n) HTB.out (hgr n) (fun j hj => Or.inr (by have e : g i = j := (by simpa using hj); omega)))
                                    have H92 := hide (fun n => (H9.out.drewN n).other (C := g i) ne1 k (.int .i64 ((S : Int) - 1)))
                                    have HV2 := hide (fun n => (below_drewN HBV.out n).setCell (p := ⟨g i, k, none⟩) (show mid ≤ g i from hgi0) (.int .i64 ((S : Int) - 1)))
                                    have hSz : IntKind.i64.wrap ((S : Int) - 1) = (S : Int) - 1 := by rw [IntKind.wrap_i64]; omega
                                    have hii2 : (i : Int) < (X0.el : Int) := by omega
                                    have Hh := hide hgr
                                    clear t1 t2 t3 t4 u1 u2 u3 hgr htb hfe
                                    go_wp2_with fail
                                    go_region_held3 (fun w' => w'.cell? ⟨w6.heap.size, 2, none⟩ = some (.slice (some ⟨ge, 0, none⟩) X0.el cE) ∧ w'.cell? ⟨ge, i, none⟩ = some (.slice (some ⟨g i, 0, none⟩) S (c i)) ∧ w'.cell? ⟨w6.heap.size, 0, none⟩ = some (.int .i64 (S : Int))) (first | exact HK.out 1 | exact HK.out _ | exact HK3.out 1 | exact HK3.out _)
                                      (fail)
                                    go_wp2
                                    go_roundw
                                    case rel =>
                                      first
                                      | exact ⟨k + 1, by omega, by go_num, by rw [hnx.out]; simp, hide (HN2.out 1), hide (HB2.out 1), hide (H92.out 1), hide (HV2.out 1)⟩
                                      | ((try rw [← hea]); (repeat apply Exists.intro); refine ⟨?_, rfl⟩; exact ⟨k + 1, by omega, by go_num, by rw [hnx.out]; simp, hide (HN2.out 1), hide (HB2.out 1), hide (H92.out 1), hide (HV2.out 1)⟩)
                                    case measure => simp [intOf]; omega
                                  · have fb : ((q : Int) % 2 == 1) = false := by simp; omega
                                    rw [show v.testBit k = false by rw [htb]; simp [hb], if_neg (by simp)] at hfe
                                    have HN2 := hide (HTE.out.congr (Z' := Zf i (k + 1)) (fun r _ j _ => by
                                      simp only [HZf.out]
                                      by_cases e2 : r < i ∨ (r = i ∧ j < k)
                                      · rw [if_pos e2, if_pos (by omega)]
                                      · rw [if_neg e2]
                                        by_cases e : r = i ∧ j = k
                                        · rw [if_pos (by omega), e.1, e.2, hfe]
                                        · rw [if_neg (by omega)]))
                                    clear htb hfe hb
                                    go_wp2
                                    go_roundw
                                    case rel =>
                                      first
                                      | exact ⟨k + 1, by omega, by go_num, by rw [hnx.out]; simp, HN2, HTB, H9, HBV⟩
                                      | ((try rw [← hea]); (repeat apply Exists.intro); exact ⟨⟨k + 1, by omega, by go_num, by rw [hnx.out]; simp, HN2, HTB, H9, HBV⟩, rfl⟩)
                                    case measure => simp [intOf]; omega
                                · have hke : S = k := by omega
                                  subst hke
                                  have hki : (S : Int) ≤ (S : Int) := Int.le_refl _
                                  have HN2 := hide (HTE.out.congr (Z' := Zf (i + 1) 0) (fun r _ j hj => by
                                    simp only [HZf.out]
                                    by_cases e2 : r < i ∨ (r = i ∧ j < S)
                                    · rw [if_pos e2, if_pos (by omega)]
                                    · rw [if_neg e2, if_neg (by omega)]))
                                  go_wp2
                                  go_roundw
                                  case rel =>
                                    first
                                    | exact ⟨i + 1, by omega, by go_num, HN2, HTB, H9, HBV⟩
                                    | ((try rw [← hea]); (repeat apply Exists.intro); exact ⟨⟨i + 1, by omega, by go_num, HN2, HTB, H9, HBV⟩, rfl⟩)
                                  case measure => simp [intOf]; omega
                            · have hie : i = h.en := by omega
                              have hii' : (h.en : Int) ≤ (i : Int) := by omega
                              have n0 := H9.out.cell 0
                              have n1 := H9.out.cell 1
                              have n2 := H9.out.cell 2
                              simp at n0 n1 n2
                              have y0 := bR8.cell 0
                              have y1 := bR8.cell 1
                              have y3 := bR8.cell 2
                              have yf := bR8.frozen
                              have bR9 := bR8.set3 (.int .i64 (S : Int)) (.slice gB S cB) (.slice gE X0.el cE)
                              have s0 := bR9.cell 0
                              have s1 := bR9.cell 1
                              have s2 := bR9.cell 2
                              unfold Ytjhkadffaephmaa.set3 at s0 s1 s2
                              simp at y0 y1 y3 s0 s1 s2
                              have HA : Hid (RefAns (.mk h sub) w.heap.size (.returned (.tuple #[.agg #[.int .i64 (S : Int), .slice gB S cB, .slice gE X0.el cE], .int .i64 0])) (set3 wx (w.heap.size + 1) (.int .i64 (S : Int)) (.slice gB S cB) (.slice gE X0.el cE))) := hide (Or.inl ⟨Hx.out, _, _, by rw [Hbu.out, show (filtN X0 h.evN).size = S from HS.out], by
                                rw [Hbu.out]
                                have hv1 := hv9.size
                                have hv2 := HBV.out.size
                                have hlo := Ttop.1
                                refine (tabs_set3 (lo := lo 0) ⟨mid, hlm, by omega, ?_, ?_⟩ (by omega) _ _ _).lower (by omega)
                                · have := HTB.out
                                  rw [show (filtN X0 h.evN).size = S from HS.out]
                                  exact this
                                · have := (HTE.out.mono (Nat.le_refl _) (show hi 0 ≤ wx.heap.size by omega)).congr (Z' := FE) (fun r hr c _ => by
                                    simp only [HZf.out]
                                    rw [if_pos (Or.inl (by have := Hg3.out; omega))])
                                  rw [HFE.out] at this
                                  rw [show (filtN X0 h.evN).size = S from HS.out]
                                  exact this⟩)
                              have HB6 := hide (below3 (HW.out.trans ((hv9.mono HW.out.size).trans (HBV.out.mono (show w.heap.size ≤ mid by omega)))) (show w.heap.size ≤ w.heap.size + 1 by omega) (.int .i64 (S : Int)) (.slice gB S cB) (.slice gE X0.el cE))
                              clear HTB HTE bR8 bR9 cev bp hie
                              go_wp2
                              exact bodyPost_ret (v := .tuple #[.agg #[.int .i64 (S : Int), .slice gB S cB, .slice gE X0.el cE], .int .i64 0]) (by simp [results, Try.results68, go_sem, s0, s1, s2]) rfl ⟨HA.out, HB6.out⟩
                · have f7 : ((h.en : Int) != ((sub 0).built.el : Int)) = true := by simp; omega
                  have Hx : Hid (PlanM.err (.mk h sub) = 4) := hide (by rw [he]; unfold filtErr; rw [if_neg (by omega), if_neg (by omega), if_pos (by rw [gg0] at g3; exact g3)])
                  have bR5 := bR1.alloc (.cells #[.int .i64 ((sub 0).built.size : Int), .slice gB (sub 0).built.size cB, .slice gE (sub 0).built.el cE] 24)
                  have bR6 := bR5.set3 (.int .i64 0) (.slice none 0 0) (.slice none 0 0)
                  have y0 := bR5.cell 0
                  have y1 := bR5.cell 1
                  have y2 := bR5.cell 2
                  have yf := bR5.frozen
                  have s0 := bR6.cell 0
                  have s1 := bR6.cell 1
                  have s2 := bR6.cell 2
                  unfold Ytjhkadffaephmaa.set3 at s0 s1 s2
                  simp at y0 y1 y2 s0 s1 s2
                  have z2' : ∀ o, (wr.alloc o).cell? ⟨w.heap.size, 2, none⟩ = some (.slice h.eg h.en h.ec) := fun o => (b1.alloc o).cell 2
                  have HB6 := hide (below3 (HW.out.alloc HW.out.size (.cells #[.int .i64 ((sub 0).built.size : Int), .slice gB (sub 0).built.size cB, .slice gE (sub 0).built.el cE] 24)) (show w.heap.size ≤ w.heap.size + 1 by omega) (.int .i64 0) (.slice none 0 0) (.slice none 0 0))
                  clear kk k3 k4 g1 g2 g3 he hbu T0 Ttop eb0 ee0 row cA o0 zz0 gg0
                  go_wp2
                  exact bodyPost_ret (v := .tuple #[.agg #[.int .i64 0, .slice none 0 0, .slice none 0 0], .int .i64 4]) (by simp [results, Try.results68, go_sem, s0, s1, s2]) rfl ⟨Or.inr ⟨by rw [Hx.out]; decide, by rw [Hx.out]⟩, HB6.out⟩
              · have f6 : ((h.n : Int) != 0) = true := by simp [g2]
                have Hx : Hid (PlanM.err (.mk h sub) = 3) := hide (by rw [he]; unfold filtErr; rw [if_neg (by omega), if_pos g2])
                clear kk k3 k4 g1 g2 he hbu
                go_wp2
                exact bodyPost_ret (v := .tuple #[.agg #[.int .i64 0, .slice none 0 0, .slice none 0 0], .int .i64 3]) (by simp [results, Try.results68, go_sem, e0, e1, e2]) rfl ⟨Or.inr ⟨by rw [Hx.out]; decide, by rw [Hx.out]⟩, HBe.out⟩
            · have f5 : ((h.pn : Int) != 1) = true := by simp; omega
              have Hx : Hid (PlanM.err (.mk h sub) = 1) := hide (by rw [he]; unfold filtErr; rw [if_pos g1])
              clear kk k3 k4 g1 he hbu
              go_wp2
              exact bodyPost_ret (v := .tuple #[.agg #[.int .i64 0, .slice none 0 0, .slice none 0 0], .int .i64 1]) (by simp [results, Try.results68, go_sem, e0, e1, e2]) rfl ⟨Or.inr ⟨by rw [Hx.out]; decide, by rw [Hx.out]⟩, HBe.out⟩
          · have k12 : h.kind = 1 ∨ h.kind = 2 := by omega
            have he : PlanM.err (.mk h sub) = numErr h := by rw [Hp.out]; unfold headErr; rw [if_pos k12]
            have f3 : (h.kind == 3) = false := by simp [k3]
            have f4 : (h.kind == 4) = false := by simp [k4]
            obtain ⟨t12, ft1, ft2⟩ : ∃ t12 : Bool, (h.kind == 1) = !t12 ∧ (h.kind == 2) = t12 := by
              rcases k12 with e | e
              · exact ⟨false, by simp [e], by simp [e]⟩
              · exact ⟨true, by simp [e], by simp [e]⟩
            have hbu : PlanM.built (.mk h sub) = if t12 = true then wideN h.n.toNat h.en h.evN else hopsN h.n.toNat h.en h.evN := by
              simp only [PlanM.built, if_neg k3, if_neg k4]
              rcases k12 with e | e
              · have : t12 = false := by rw [← ft2]; simp [e]
                rw [if_neg (by omega), this]; rfl
              · have : t12 = true := by rw [← ft2]; simp [e]
                rw [if_pos e, this]; rfl
            clear k12 kk k3 k4
            by_cases g1 : h.pn = 0
            · have f5 : ((h.pn : Int) != 0) = false := by simp [g1]
              by_cases g2 : 1 ≤ h.n ∧ h.n ≤ 22
              · have HBt := hide (fun (W : World) => between_any h.n 1 22 W)
                rw [show (decide ((1 : Int) ≤ h.n) && decide (h.n ≤ 22)) = true by simp [g2]] at HBt
                cases t12 with
                | true =>
                  simp only [Bool.not_true] at ft1
                  simp only [if_true] at hbu
                  obtain ⟨w6, rfl⟩ : ∃ w6, w6 = wr := ⟨wr, rfl⟩
                  go_wp2_with (go_at_call 56; refine (HBt.out _).mono ?_; rintro r w' ⟨rfl, hq⟩; have hq := hq.symm; subst hq)
                  go_loopw [16] (fun i wx => ∃ k : Nat, k ≤ h.en ∧ i = .int .i64 k ∧ Hid (∀ j, j < k → 1 ≤ h.ev j ∧ h.ev j ≤ h.n) ∧ Hid (∃ m, wx = w6.drewN m)) (fun i _ => h.en - (intOf i).toNat)
                  case atStart => exact ⟨0, Nat.zero_le _, rfl, hide (fun j hj => absurd hj (Nat.not_lt_zero _)), hide ⟨0, rfl⟩⟩
                  case round =>
                    obtain ⟨k, hk, rfl, Hev, HD⟩ := hrel
                    have hBw : Below w6.heap.size w6 wr := by obtain ⟨m, rfl⟩ := HD.out; exact below_drewN (Below.refl _ _) m
                    have b1x := b1.below hBw b1.lt
                    have x0 := b1x.cell 0
                    have x1 := b1x.cell 1
                    have x2 := b1x.cell 2
                    simp at x0 x1 x2
                    clear z0 z1 z2 e0 e1 e2 E0 E1 E2 d0 d1 d2 c3
                    by_cases hlt : k < h.en
                    · have hki : (k : Int) < (h.en : Int) := by omega
                      have hea := hh.ea (by omega)
                      have hec := (hBw.cell (p := ⟨h.eb, h.eo + k, none⟩) (Nat.lt_of_lt_of_le (hh.el (by omega)) HW.out.size)).trans (HHI.out.ecell k hlt)
                      have HBk := hide (fun (W : World) => between_any (h.ev k) 1 h.n W)
                      by_cases hin1 : 1 ≤ h.ev k ∧ h.ev k ≤ h.n
                      · rw [show (decide ((1 : Int) ≤ h.ev k) && decide (h.ev k ≤ h.n)) = true by simp [hin1]] at HBk
                        have Hin := hide hin1
                        clear hin1
                        go_wp2_with fail
                        go_quiet ((go_at_call 56; exact Calls.quiet_of_same (HBk.out _)))
                        go_wp2
                        go_roundw
                        case rel =>
                          have hn : ∀ j, j < k + 1 → 1 ≤ h.ev j ∧ h.ev j ≤ h.n := fun j hj => by
                            by_cases e : j = k
                            · subst e; exact Hin.out
                            · exact Hev.out j (by omega)
                          have hD2 : Hid (∃ m, wr.drewN nq = w6.drewN m) := hide (by obtain ⟨m, rfl⟩ := HD.out; exact ⟨_, by rw [World.drewN_drewN]⟩)
                          first
                          | exact ⟨k + 1, by omega, by go_num, hide hn, hD2⟩
                          | (rw [← hea]; (repeat apply Exists.intro); exact ⟨⟨k + 1, by omega, by go_num, hide hn, hD2⟩, rfl⟩)
                        case measure => simp [intOf]; omega
                      · rw [show (decide ((1 : Int) ≤ h.ev k) && decide (h.ev k ≤ h.n)) = false by simp; omega] at HBk
                        have Hx : Hid (PlanM.err (.mk h sub) = 3) := hide (by rw [he]; unfold numErr; rw [if_neg (by omega), if_pos (Or.inr (Or.inr (within_false hlt (by omega))))])
                        clear hin1
                        have HEy := hide (fun n => ((bR1.below hBw bR1.lt).drewN n).set3 (.int .i64 0) (.slice none 0 0) (.slice none 0 0))
                        have HEz := hide (fun n => ((bR1.below hBw bR1.lt).drewN n))
                        have Y0 := fun n => (HEz.out n).cell 0
                        have Y1 := fun n => (HEz.out n).cell 1
                        have Y2 := fun n => (HEz.out n).cell 2
                        have Yf := fun n => (HEz.out n).frozen
                        have S0 := fun n => (HEy.out n).cell 0
                        have S1 := fun n => (HEy.out n).cell 1
                        have S2 := fun n => (HEy.out n).cell 2
                        unfold Ytjhkadffaephmaa.set3 at S0 S1 S2
                        simp at Y0 Y1 Y2 S0 S1 S2
                        have yf' := (bR1.below hBw bR1.lt).frozen
                        have HBx := hide (fun n => below3 (below_drewN (HW.out.trans (hBw.mono HW.out.size)) n) (show w.heap.size ≤ w.heap.size + 1 by omega) (.int .i64 0) (.slice none 0 0) (.slice none 0 0))
                        go_wp2_with fail
                        go_quiet ((go_at_call 56; exact Calls.quiet_of_same (HBk.out _)))
                        go_wp2
                        exact bodyPost_ret (v := .tuple #[.agg #[.int .i64 0, .slice none 0 0, .slice none 0 0], .int .i64 3]) (by simp [results, Try.results68, go_sem, S0, S1, S2]) rfl ⟨Or.inr ⟨by rw [Hx.out]; decide, by rw [Hx.out]⟩, HBx.out _⟩
                    · have hke : k = h.en := by omega
                      have hki : (h.en : Int) ≤ (k : Int) := by omega
                      have hev : ∀ j, j < h.en → 1 ≤ h.ev j ∧ h.ev j ≤ h.n := fun j hj => Hev.out j (by omega)
                      have Hx : Hid (PlanM.err (.mk h sub) = 0) := hide (by rw [he]; unfold numErr; rw [if_neg (by omega), if_neg (by rw [within_iff.2 hev]; simp; omega)])
                      obtain ⟨N, hN⟩ : ∃ N : Nat, h.n = (N : Int) := ⟨h.n.toNat, by omega⟩
                      have hNt : h.n.toNat = N := by omega
                      rw [hNt] at hbu
                      obtain ⟨S, hS⟩ : ∃ S : Nat, S = N + 2 := ⟨_, rfl⟩
                      have hok : (wideN N h.en h.evN).Ok := wide_ok (by omega) (by omega) hen (fun e hi => by have := hev e hi; unfold PHead.evN; omega)
                      have Hbu := hide hbu
                      have HN := hide hN
                      have HS := hide hS
                      have Hok := hide hok
                      have HEV := hide hev
                      have hS2 : h.n + 2 = (S : Int) := by omega
                      have hS24 : (S : Int) ≤ 24 := by omega
                      have hS24' : S ≤ 24 := by omega
                      have hS3 : 3 ≤ S := by omega
                      obtain ⟨w7, rfl⟩ : ∃ w7, w7 = wr := ⟨wr, rfl⟩
                      clear hke hev hN hNt hS hok hbu he Hev
                      go_wp2_with fail
                      have b17 := Blk.new w7 #[.int .i64 (S : Int), .slice none 0 0, .slice none 0 0] 24
                      have hv7 : Below w7.heap.size w7 (w7.alloc (.cells #[.int .i64 (S : Int), .slice none 0 0, .slice none 0 0] 24)) := (Below.refl _ w7).alloc (Nat.le_refl _) _
                      have hvs : (w7.alloc (.cells #[.int .i64 (S : Int), .slice none 0 0, .slice none 0 0] 24)).heap.size = w7.heap.size + 1 := by simp
                      generalize w7.alloc (.cells #[.int .i64 (S : Int), .slice none 0 0, .slice none 0 0] 24) = V at *
                      obtain ⟨ZB, hZB⟩ : ∃ ZB : Nat → Nat → Int, ZB = fun a b => (((wideN N h.en h.evN).best a b : Nat) : Int) := ⟨_, rfl⟩
                      obtain ⟨ZE, hZE⟩ : ∃ ZE : Nat → Nat → Int, ZE = fun a b => (((wideN N h.en h.evN).edge a b : Nat) : Int) := ⟨_, rfl⟩
                      have HZB := hide hZB
                      have HZE := hide hZE
                      clear hZB hZE
                      go_loopw [18] (fun i wx => ∃ (k : Nat) (VB : Value), k ≤ S ∧ i = .int .i64 k ∧ Hid (Blk wx w7.heap.size #[.int .i64 (S : Int), VB, .slice none 0 0] 24) ∧ Hid (OwnTab (w7.heap.size + 1) wx.heap.size VB k S ZB wx) ∧ Hid (Below w7.heap.size V wx)) (fun i _ => S - (intOf i).toNat)
                      case atStart => exact ⟨0, _, Nat.zero_le _, rfl, hide b17, hide (OwnTab.nil _ _ _ _ _), hide (Below.refl _ _)⟩
                      case round =>
                        obtain ⟨i, VB, hi, rfl, H11, HT, HBV⟩ := hrel
                        obtain ⟨wx, rfl⟩ : ∃ wx, wx = wr := ⟨wr, rfl⟩
                        have hwx1 : w7.heap.size + 1 ≤ wx.heap.size := by have := HBV.out.size; omega
                        have hwx9 : w7.heap.size ≤ wx.heap.size := by omega
                        have p0 := H11.out.cell 0
                        simp at p0
                        clear x0 x1 x2 b17
                        by_cases hlt : i < S
                        · have hii : (i : Int) < (S : Int) := by omega
                          go_wp2_with fail
                          go_loopw [19, 20] (fun v j wy => ∃ k : Nat, k ≤ S ∧ j = .int .i64 k ∧ Hid (wy.ownsRow wx.heap.size 3 1 v k (intsL (ZB i) k)) ∧ Hid (Below wx.heap.size wx wy)) (fun _ j _ => S - (intOf j).toNat)
                          case atStart => exact ⟨0, Nat.zero_le _, rfl, hide (World.ownsRow_nil _ _ _ _), hide (Below.refl _ _)⟩
                          case round =>
                            obtain ⟨k, hk, rfl, HO, HB4⟩ := hrel
                            have h11a := H11.out.below HB4.out H11.out.lt
                            have p0' := h11a.cell 0
                            simp at p0'
                            clear p0 h11a
                            by_cases hklt : k < S
                            · have hki : (k : Int) < (S : Int) := by omega
                              by_cases c1 : k < i
                              · have c1i : (k : Int) < (i : Int) := by omega
                                have Hval : Hid (ZB i k = (k : Int)) := hide (by rw [HZB.out]; show ((min i k : Nat) : Int) = _; omega)
                                clear c1
                                go_wp2_with (at_builtin; refine wpList_append_lies _ rfl _ _ _ rfl wx.heap.size 3 i1 _ 1 8 Try.underlying32 hi1 hy0 hy1 hy2 rfl (by decide) _ k _ rfl (HO.out.alloc _) ⟨wr.heap.size, 0, none⟩ 1 1 [.int .i64 (k : Int)] rfl rfl ?c1 ?c2 (by decide) ?c3 ?c4 ?c5 _ rfl ?_)
                                all_goals try (case c1 => exact World.news_of_block (Blk.new' (by simp)))
                                all_goals try (case c2 => simp [Value.oneCell'])
                                all_goals try (case c3 => unfold maxLen; omega)
                                all_goals try (case c4 => omega)
                                all_goals try (case c5 => have := HB4.out.size; simp; omega)
                                intro g' cap' w2 hown2 hgrow hat2 hlt2
                                have HO2 := hide (show w2.ownsRow wx.heap.size 3 1 _ (k + 1) (intsL (ZB i) (k + 1)) by rw [intsL_succ, Hval.out]; exact hown2)
                                have HB2 := hide ((HB4.out.alloc (by have := HB4.out.size; omega) _).trans (grown_below hgrow (fun g hg => (HO.out.lt g hg).1) (by have := HB4.out.size; simp; omega)))
                                clear hown2 hgrow hat2 hlt2
                                go_wp2
                                go_roundw
                                case rel =>
                                  first
                                  | exact ⟨k + 1, by omega, by go_num, HO2, HB2⟩
                                  | ((try rw [← hea]); (repeat apply Exists.intro); exact ⟨⟨k + 1, by omega, by go_num, HO2, HB2⟩, rfl⟩)
                                case measure => simp [intOf]; omega
                              · have c1i : (i : Int) ≤ (k : Int) := by omega
                                have Hval : Hid (ZB i k = (i : Int)) := hide (by rw [HZB.out]; show ((min i k : Nat) : Int) = _; omega)
                                clear c1
                                go_wp2_with (at_builtin; refine wpList_append_lies _ rfl _ _ _ rfl wx.heap.size 3 i1 _ 1 8 Try.underlying32 hi1 hy0 hy1 hy2 rfl (by decide) _ k _ rfl (HO.out.alloc _) ⟨wr.heap.size, 0, none⟩ 1 1 [.int .i64 (i : Int)] rfl rfl ?c1 ?c2 (by decide) ?c3 ?c4 ?c5 _ rfl ?_)
                                all_goals try (case c1 => exact World.news_of_block (Blk.new' (by simp)))
                                all_goals try (case c2 => simp [Value.oneCell'])
                                all_goals try (case c3 => unfold maxLen; omega)
                                all_goals try (case c4 => omega)
                                all_goals try (case c5 => have := HB4.out.size; simp; omega)
                                intro g' cap' w2 hown2 hgrow hat2 hlt2
                                have HO2 := hide (show w2.ownsRow wx.heap.size 3 1 _ (k + 1) (intsL (ZB i) (k + 1)) by rw [intsL_succ, Hval.out]; exact hown2)
                                have HB2 := hide ((HB4.out.alloc (by have := HB4.out.size; omega) _).trans (grown_below hgrow (fun g hg => (HO.out.lt g hg).1) (by have := HB4.out.size; simp; omega)))
                                clear hown2 hgrow hat2 hlt2
                                go_wp2
                                go_roundw
                                case rel =>
                                  first
                                  | exact ⟨k + 1, by omega, by go_num, HO2, HB2⟩
                                  | ((try rw [← hea]); (repeat apply Exists.intro); exact ⟨⟨k + 1, by omega, by go_num, HO2, HB2⟩, rfl⟩)
                                case measure => simp [intOf]; omega
                            · have hke : k = S := by omega
                              subst hke
                              have hki : (k : Int) ≤ (k : Int) := Int.le_refl _
                              obtain ⟨gn, cn, rfl, gn0, gn1⟩ := HO.out.form (by omega)
                              have h11 := H11.out.below HB4.out H11.out.lt
                              obtain ⟨g, c, t1, t2, t3, t4⟩ := HT.out.below HB4.out
                              have n2 := h11.cell 1
                              simp at n2
                              have n2' : ∀ o, (wr.alloc o).cell? ⟨w7.heap.size, 1, none⟩ = some VB := fun o => (h11.alloc o).cell 1
                              have hvb9 : ∀ j, Value.ownBlock VB = some j → w7.heap.size + 1 ≤ j := fun j hj => (t1.lt j hj).1
                              have hlo7 : w7.heap.size + 1 ≤ w7.heap.size + 1 := Nat.le_refl _
                              have Ht1 := hide t1
                              clear t1
                              go_wp2_with (at_builtin; refine wpList_append_lies _ rfl _ _ _ rfl (w7.heap.size + 1) 32 i2 _ 1 24 Try.underlying22 hi2 hx0 hx1 hx2 rfl (by decide) _ i _ rfl (Ht1.out.alloc _) ⟨wr.heap.size, 0, none⟩ 1 1 [.slice (some ⟨gn, 0, none⟩) k cn] rfl rfl ?c1 ?c2 (by decide) ?c3 ?c4 ?c5 _ rfl ?_)
                              all_goals try (case c1 => exact World.news_of_block (Blk.new' (by simp)))
                              all_goals try (case c2 => simp [Value.oneCell'])
                              all_goals try (case c3 => unfold maxLen; omega)
                              all_goals try (case c4 => omega)
                              all_goals try (case c5 => have := HB4.out.size; simp; omega)
                              intro g' cap' w2 hown2 hgrow hat2 hlt2
                              have HTn := hide (OwnTab.push (Z := ZB) (Ht1.out.alloc (.cells #[.slice (some ⟨gn, 0, none⟩) k cn] 32)) t2 (fun r hr => ⟨(t3 r hr).1.alloc _, (t3 r hr).2⟩) t4 (by omega) (HO.out.alloc _) hown2 hgrow (by simpa using hat2))
                              have h112 := blk_grownP (h11.alloc (.cells #[.slice (some ⟨gn, 0, none⟩) k cn] 32)) hgrow (fun e => by have := hvb9 _ e; omega)
                              have HB2 := hide ((HBV.out.trans (HB4.out.mono hwx9)).alloc (by have := HB4.out.size; omega) (.cells #[.slice (some ⟨gn, 0, none⟩) k cn] 32) |>.trans (grown_below hgrow (fun g hg => by have := hvb9 g hg; omega) (by have := HB4.out.size; simp; omega)))
                              have s2' := hgrow.size
                              have m1 := h112.cell 1
                              have mf := h112.frozen
                              simp at m1
                              have H112 := hide h112
                              clear hown2 hgrow hat2 hlt2 Ht1 t2 t3 t4 h11 h112 n2 n2'
                              go_wp2
                              have HBlk := hide (H112.out.set 1 (.slice (some ⟨g', 0, none⟩) (i + 1) cap'))
                              simp at HBlk
                              have hgs : w2.grownBy (w2.setCell ⟨w7.heap.size, 1, none⟩ (.slice (some ⟨g', 0, none⟩) (i + 1) cap')) (some w7.heap.size) := ⟨rfl, rfl, rfl, by simp, fun j _ hne => by
                                show (w2.heap.modify w7.heap.size _)[j]? = _
                                rw [Array.getElem?_modify, if_neg (fun e => hne (by rw [e]))]⟩
                              have HT2 := hide ((HTn.out.kept hgs (fun k hk => Or.inl (by have e : w7.heap.size = k := (by simpa using hk); omega))).mono (Nat.le_refl _) (Nat.le_of_eq (show w2.heap.size = (w2.setCell ⟨w7.heap.size, 1, none⟩ (.slice (some ⟨g', 0, none⟩) (i + 1) cap')).heap.size by simp)))
                              have HB3 := hide (HB2.out.setCell (p := ⟨w7.heap.size, 1, none⟩) (Nat.le_refl _) (.slice (some ⟨g', 0, none⟩) (i + 1) cap'))
                              go_roundw
                              case rel =>
                                first
                                | exact ⟨i + 1, _, by omega, by go_num, HBlk, HT2, HB3⟩
                                | ((try rw [← hea]); (repeat apply Exists.intro); exact ⟨⟨i + 1, _, by omega, by go_num, HBlk, HT2, HB3⟩, rfl⟩)
                              case measure => simp [intOf]; omega
                        · have hie : S = i := by omega
                          subst hie
                          have hii : (S : Int) ≤ (S : Int) := Int.le_refl _
                          obtain ⟨w8, rfl⟩ : ∃ w8, w8 = wx := ⟨wx, rfl⟩
                          have HSEE : Hid (∀ W' : World, Below w7.heap.size V W' → Blk W' w.heap.size #[.int .i64 h.kind, .int .i64 h.n, .slice h.eg h.en h.ec, .slice h.pg h.pn h.pc] 42 ∧ (∀ i, i < h.en → W'.cell? ⟨h.eb, h.eo + i, none⟩ = some (.int .i64 (h.ev i))) ∧ Below w6.heap.size w6 W') := hide (fun W' hb => by
                            have hb6 : Below w6.heap.size w6 W' := (hBw.trans (hv7.mono hBw.size)).trans (hb.mono hBw.size)
                            exact ⟨b1.below hb6 b1.lt, fun i hi => (hb6.cell (p := ⟨h.eb, h.eo + i, none⟩) (Nat.lt_of_lt_of_le (hh.el (by omega)) HW.out.size)).trans (HHI.out.ecell i hi), hb6⟩)
                          obtain ⟨b18, _, _⟩ := HSEE.out w8 HBV.out
                          have y2 := b18.cell 2
                          simp at y2
                          go_wp2_with fail
                          go_loopw [21] (fun i wx => ∃ (k : Nat) (VE : Value), k ≤ h.en ∧ i = .int .i64 k ∧ Hid (Blk wx w7.heap.size #[.int .i64 (S : Int), VB, VE] 24) ∧ Hid (OwnTab (w7.heap.size + 1) w8.heap.size VB S S ZB wx) ∧ Hid (OwnTab w8.heap.size wx.heap.size VE k S ZE wx) ∧ Hid (Below w7.heap.size V wx) ∧ Hid (w8.heap.size ≤ wx.heap.size)) (fun i _ => h.en - (intOf i).toNat)
                          case atStart => exact ⟨0, _, Nat.zero_le _, rfl, H11, HT, hide (OwnTab.nil _ _ _ _ _), HBV, hide (Nat.le_refl _)⟩
                          case round =>
                            clear H11 HT HBV b18 y2 p0
                            obtain ⟨i, VE, hi, rfl, H11, HTB, HTE, HBV, HSZ⟩ := hrel
                            obtain ⟨wx, rfl⟩ : ∃ wx, wx = wr := ⟨wr, rfl⟩
                            have hsz8 := HSZ.out
                            have hwx1' : w7.heap.size + 1 ≤ wx.heap.size := by omega
                            have hwx9' : w7.heap.size ≤ wx.heap.size := by omega
                            obtain ⟨b18, _, hb6x⟩ := HSEE.out wx HBV.out
                            have y2 := b18.cell 2
                            simp at y2
                            have p0 := H11.out.cell 0
                            simp at p0
                            by_cases hlt : i < h.en
                            · have hii' : (i : Int) < (h.en : Int) := by omega
                              have hea := hh.ea (by omega)
                              obtain ⟨ev1, ev2⟩ := HEV.out i hlt
                              go_wp2_with fail
                              go_loopw [22, 23] (fun v j wy => ∃ k : Nat, k ≤ S ∧ j = .int .i64 k ∧ Hid (wy.ownsRow wx.heap.size 3 1 v k (intsL (ZE i) k)) ∧ Hid (Below wx.heap.size wx wy)) (fun _ j _ => S - (intOf j).toNat)
                              case atStart => exact ⟨0, Nat.zero_le _, rfl, hide (World.ownsRow_nil _ _ _ _), hide (Below.refl _ _)⟩
                              case round =>
                                obtain ⟨k, hk, rfl, HO, HB4⟩ := hrel
                                clear b18 y2 p0
                                have h11a := H11.out.below HB4.out H11.out.lt
                                obtain ⟨b19, cev, _⟩ := HSEE.out wr (HBV.out.trans (HB4.out.mono hwx9'))
                                have p0 := h11a.cell 0
                                have x0 := b19.cell 0
                                have x1 := b19.cell 1
                                have x2 := b19.cell 2
                                have xe := cev i hlt
                                simp at p0 x0 x1 x2
                                have hNN := HN.out
                                have hSS := HS.out
                                have hevN : (h.evN i : Int) = h.ev i := by unfold PHead.evN; omega
                                by_cases hklt : k < S
                                · have hki : (k : Int) < (S : Int) := by omega
                                  by_cases c1 : k + 1 = S
                                  · have q1 : ((k : Int) == (S : Int) - 1) = true := by simp; omega
                                    have Hval : Hid (ZE i k = ((S : Int) - 1)) := hide (by rw [HZE.out]; show ((max k (h.evN i) : Nat) : Int) = _; omega)
                                    have q2 : h.ev i ≤ (k : Int) := by omega
                                    clear c1 hNN hSS hevN h11a b19 cev
                                    go_wp2_with (at_builtin; refine wpList_append_lies _ rfl _ _ _ rfl wx.heap.size 3 i1 _ 1 8 Try.underlying32 hi1 hy0 hy1 hy2 rfl (by decide) _ k _ rfl (HO.out.alloc _) ⟨wr.heap.size, 0, none⟩ 1 1 [.int .i64 ((S : Int) - 1 : Int)] rfl rfl ?c1 ?c2 (by decide) ?c3 ?c4 ?c5 _ rfl ?_)
                                    all_goals try (case c1 => exact World.news_of_block (Blk.new' (by simp)))
                                    all_goals try (case c2 => simp [Value.oneCell'])
                                    all_goals try (case c3 => unfold maxLen; omega)
                                    all_goals try (case c4 => omega)
                                    all_goals try (case c5 => have := HB4.out.size; simp; omega)
                                    intro g' cap' w2 hown2 hgrow hat2 hlt2
                                    have HO2 := hide (show w2.ownsRow wx.heap.size 3 1 _ (k + 1) (intsL (ZE i) (k + 1)) by rw [intsL_succ, Hval.out]; exact hown2)
                                    have HB2 := hide ((HB4.out.alloc (by have := HB4.out.size; omega) _).trans (grown_below hgrow (fun g hg => (HO.out.lt g hg).1) (by have := HB4.out.size; simp; omega)))
                                    clear hown2 hgrow hat2 hlt2
                                    go_wp2
                                    go_roundw
                                    case rel =>
                                      first
                                      | exact ⟨k + 1, by omega, by go_num, HO2, HB2⟩
                                      | ((try rw [← hea]); (repeat apply Exists.intro); exact ⟨⟨k + 1, by omega, by go_num, HO2, HB2⟩, rfl⟩)
                                    case measure => simp [intOf]; omega
                                  · have q1 : ((k : Int) == (S : Int) - 1) = false := by simp; omega
                                    by_cases c2 : (k : Int) < h.ev i
                                    · have q3 : h.ev i ≤ h.n := ev2
                                      have Hval : Hid (ZE i k = h.ev i) := hide (by rw [HZE.out]; show ((max k (h.evN i) : Nat) : Int) = _; omega)
                                      clear c1 hNN hSS hevN h11a b19 cev
                                      go_wp2_with (at_builtin; refine wpList_append_lies _ rfl _ _ _ rfl wx.heap.size 3 i1 _ 1 8 Try.underlying32 hi1 hy0 hy1 hy2 rfl (by decide) _ k _ rfl (HO.out.alloc _) ⟨wr.heap.size, 0, none⟩ 1 1 [.int .i64 (h.ev i : Int)] rfl rfl ?c1 ?c2 (by decide) ?c3 ?c4 ?c5 _ rfl ?_)
                                      all_goals try (case c1 => exact World.news_of_block (Blk.new' (by simp)))
                                      all_goals try (case c2 => simp [Value.oneCell'])
                                      all_goals try (case c3 => unfold maxLen; omega)
                                      all_goals try (case c4 => omega)
                                      all_goals try (case c5 => have := HB4.out.size; simp; omega)
                                      intro g' cap' w2 hown2 hgrow hat2 hlt2
                                      have HO2 := hide (show w2.ownsRow wx.heap.size 3 1 _ (k + 1) (intsL (ZE i) (k + 1)) by rw [intsL_succ, Hval.out]; exact hown2)
                                      have HB2 := hide ((HB4.out.alloc (by have := HB4.out.size; omega) _).trans (grown_below hgrow (fun g hg => (HO.out.lt g hg).1) (by have := HB4.out.size; simp; omega)))
                                      clear hown2 hgrow hat2 hlt2
                                      go_wp2
                                      go_roundw
                                      case rel =>
                                        first
                                        | exact ⟨k + 1, by omega, by go_num, HO2, HB2⟩
                                        | ((try rw [← hea]); (repeat apply Exists.intro); exact ⟨⟨k + 1, by omega, by go_num, HO2, HB2⟩, rfl⟩)
                                      case measure => simp [intOf]; omega
                                    · have q2 : h.ev i ≤ (k : Int) := by omega
                                      have q3 : (k : Int) ≤ h.n := by omega
                                      have Hval : Hid (ZE i k = (k : Int)) := hide (by rw [HZE.out]; show ((max k (h.evN i) : Nat) : Int) = _; omega)
                                      clear c1 c2 hNN hSS hevN h11a b19 cev
                                      go_wp2_with (at_builtin; refine wpList_append_lies _ rfl _ _ _ rfl wx.heap.size 3 i1 _ 1 8 Try.underlying32 hi1 hy0 hy1 hy2 rfl (by decide) _ k _ rfl (HO.out.alloc _) ⟨wr.heap.size, 0, none⟩ 1 1 [.int .i64 (k : Int)] rfl rfl ?c1 ?c2 (by decide) ?c3 ?c4 ?c5 _ rfl ?_)
                                      all_goals try (case c1 => exact World.news_of_block (Blk.new' (by simp)))
                                      all_goals try (case c2 => simp [Value.oneCell'])
                                      all_goals try (case c3 => unfold maxLen; omega)
                                      all_goals try (case c4 => omega)
                                      all_goals try (case c5 => have := HB4.out.size; simp; omega)
                                      intro g' cap' w2 hown2 hgrow hat2 hlt2
                                      have HO2 := hide (show w2.ownsRow wx.heap.size 3 1 _ (k + 1) (intsL (ZE i) (k + 1)) by rw [intsL_succ, Hval.out]; exact hown2)
                                      have HB2 := hide ((HB4.out.alloc (by have := HB4.out.size; omega) _).trans (grown_below hgrow (fun g hg => (HO.out.lt g hg).1) (by have := HB4.out.size; simp; omega)))
                                      clear hown2 hgrow hat2 hlt2
                                      go_wp2
                                      go_roundw
                                      case rel =>
                                        first
                                        | exact ⟨k + 1, by omega, by go_num, HO2, HB2⟩
                                        | ((try rw [← hea]); (repeat apply Exists.intro); exact ⟨⟨k + 1, by omega, by go_num, HO2, HB2⟩, rfl⟩)
                                      case measure => simp [intOf]; omega
                                · have hke : S = k := by omega
                                  subst hke
                                  have hki : (S : Int) ≤ (S : Int) := Int.le_refl _
                                  clear hNN hSS hevN h11a b19 cev x0 x1 x2 xe
                                  obtain ⟨gn, cn, rfl, gn0, gn1⟩ := HO.out.form (by omega)
                                  have h11 := H11.out.below HB4.out H11.out.lt
                                  obtain ⟨g, c, t1, t2, t3, t4⟩ := HTE.out.below HB4.out
                                  have HTB2 := hide (HTB.out.below HB4.out)
                                  have n2 := h11.cell 2
                                  simp at n2
                                  have n2' : ∀ o, (wr.alloc o).cell? ⟨w7.heap.size, 2, none⟩ = some VE := fun o => (h11.alloc o).cell 2
                                  have hvb9 : ∀ j, Value.ownBlock VE = some j → w8.heap.size ≤ j := fun j hj => (t1.lt j hj).1
                                  have hlo7 : w7.heap.size + 1 ≤ w8.heap.size := by omega
                                  have Ht1 := hide t1
                                  clear t1
                                  go_wp2_with (at_builtin; refine wpList_append_lies _ rfl _ _ _ rfl (w8.heap.size) 32 i2 _ 1 24 Try.underlying22 hi2 hx0 hx1 hx2 rfl (by decide) _ i _ rfl (Ht1.out.alloc _) ⟨wr.heap.size, 0, none⟩ 1 1 [.slice (some ⟨gn, 0, none⟩) S cn] rfl rfl ?c1 ?c2 (by decide) ?c3 ?c4 ?c5 _ rfl ?_)
                                  all_goals try (case c1 => exact World.news_of_block (Blk.new' (by simp)))
                                  all_goals try (case c2 => simp [Value.oneCell'])
                                  all_goals try (case c3 => unfold maxLen; omega)
                                  all_goals try (case c4 => omega)
                                  all_goals try (case c5 => have := HB4.out.size; simp; omega)
                                  intro g' cap' w2 hown2 hgrow hat2 hlt2
                                  have HTn := hide (OwnTab.push (Z := ZE) (Ht1.out.alloc (.cells #[.slice (some ⟨gn, 0, none⟩) S cn] 32)) t2 (fun r hr => ⟨(t3 r hr).1.alloc _, (t3 r hr).2⟩) t4 (by omega) (HO.out.alloc _) hown2 hgrow (by simpa using hat2))
                                  have h112 := blk_grownP (h11.alloc (.cells #[.slice (some ⟨gn, 0, none⟩) S cn] 32)) hgrow (fun e => by have := hvb9 _ e; omega)
                                  have HB2 := hide ((HBV.out.trans (HB4.out.mono hwx9')).alloc (by have := HB4.out.size; omega) (.cells #[.slice (some ⟨gn, 0, none⟩) S cn] 32) |>.trans (grown_below hgrow (fun g hg => by have := hvb9 g hg; omega) (by have := HB4.out.size; simp; omega)))
                                  have s2' := hgrow.size
                                  have HTB3 := hide ((HTB2.out.alloc (.cells #[.slice (some ⟨gn, 0, none⟩) S cn] 32)).kept hgrow (fun j hj => Or.inr (hvb9 j hj)))
                                  have m1 := h112.cell 2
                                  have mf := h112.frozen
                                  simp at m1
                                  have H112 := hide h112
                                  clear hown2 hgrow hat2 hlt2 Ht1 t2 t3 t4 h11 h112 n2 n2'
                                  go_wp2
                                  have HBlk := hide (H112.out.set 2 (.slice (some ⟨g', 0, none⟩) (i + 1) cap'))
                                  simp at HBlk
                                  have hgs : w2.grownBy (w2.setCell ⟨w7.heap.size, 2, none⟩ (.slice (some ⟨g', 0, none⟩) (i + 1) cap')) (some w7.heap.size) := ⟨rfl, rfl, rfl, by simp, fun j _ hne => by
                                    show (w2.heap.modify w7.heap.size _)[j]? = _
                                    rw [Array.getElem?_modify, if_neg (fun e => hne (by rw [e]))]⟩
                                  have HT2 := hide ((HTn.out.kept hgs (fun k hk => Or.inl (by have e : w7.heap.size = k := (by simpa using hk); omega))).mono (Nat.le_refl _) (Nat.le_of_eq (show w2.heap.size = (w2.setCell ⟨w7.heap.size, 2, none⟩ (.slice (some ⟨g', 0, none⟩) (i + 1) cap')).heap.size by simp)))
                                  have HB3 := hide (HB2.out.setCell (p := ⟨w7.heap.size, 2, none⟩) (Nat.le_refl _) (.slice (some ⟨g', 0, none⟩) (i + 1) cap'))
                                  have HTB4 := hide (HTB3.out.kept hgs (fun k hk => Or.inl (by have e : w7.heap.size = k := (by simpa using hk); omega)))
                                  have HSZ4 := hide (show w8.heap.size ≤ (w2.setCell ⟨w7.heap.size, 2, none⟩ (.slice (some ⟨g', 0, none⟩) (i + 1) cap')).heap.size by have := HB4.out.size; simp at s2'; simp; omega)
                                  go_roundw
                                  case rel =>
                                    first
                                    | exact ⟨i + 1, _, by omega, by go_num, HBlk, HTB4, HT2, HB3, HSZ4⟩
                                    | ((try rw [← hea]); (repeat apply Exists.intro); exact ⟨⟨i + 1, _, by omega, by go_num, HBlk, HTB4, HT2, HB3, HSZ4⟩, rfl⟩)
                                  case measure => simp [intOf]; omega
                            · have hie : i = h.en := by omega
                              have hii' : (h.en : Int) ≤ (i : Int) := by omega
                              subst hie
                              obtain ⟨gaB, capB, rfl⟩ := HTB.out.form
                              obtain ⟨gaE, capE, rfl⟩ := HTE.out.form
                              have n1 := H11.out.cell 1
                              have n2 := H11.out.cell 2
                              simp at n1 n2
                              have bR8 := bR1.below hb6x bR1.lt
                              have y0 := bR8.cell 0
                              have y1 := bR8.cell 1
                              have y3 := bR8.cell 2
                              have yf := bR8.frozen
                              have bR9 := bR8.set3 (.int .i64 (S : Int)) (.slice gaB S capB) (.slice gaE h.en capE)
                              have s0 := bR9.cell 0
                              have s1 := bR9.cell 1
                              have s2 := bR9.cell 2
                              unfold Ytjhkadffaephmaa.set3 at s0 s1 s2
                              simp at y0 y1 y3 s0 s1 s2
                              have HA : Hid (RefAns (.mk h sub) w.heap.size (.returned (.tuple #[.agg #[.int .i64 (S : Int), .slice gaB S capB, .slice gaE h.en capE], .int .i64 0])) (set3 wx (w.heap.size + 1) (.int .i64 (S : Int)) (.slice gaB S capB) (.slice gaE h.en capE))) := hide (Or.inl ⟨Hx.out, _, _, by rw [Hbu.out, show (wideN N h.en h.evN).size = S from HS.out.symm], by
                                rw [Hbu.out]
                                refine (tabs_set3 (lo := w7.heap.size + 1) ⟨w8.heap.size, by omega, hsz8, ?_, ?_⟩ (by have := hBw.size; have := HW.out.size; omega) _ _ _).lower (by have := hBw.size; have := HW.out.size; omega)
                                · have := HTB.out
                                  rw [HZB.out] at this
                                  rw [show (wideN N h.en h.evN).size = S from HS.out.symm]
                                  exact this
                                · have := HTE.out
                                  rw [HZE.out] at this
                                  rw [show (wideN N h.en h.evN).size = S from HS.out.symm]
                                  exact this⟩)
                              have HB6 := hide (below3 (HW.out.trans (hb6x.mono HW.out.size)) (show w.heap.size ≤ w.heap.size + 1 by omega) (.int .i64 (S : Int)) (.slice gaB S capB) (.slice gaE h.en capE))
                              clear HTB HTE bR8 bR9 hb6x
                              go_wp2
                              exact bodyPost_ret (v := .tuple #[.agg #[.int .i64 (S : Int), .slice gaB S capB, .slice gaE h.en capE], .int .i64 0]) (by simp [results, Try.results68, go_sem, s0, s1, s2]) rfl ⟨HA.out, HB6.out⟩
                | false =>
                  simp only [Bool.not_false] at ft1
                  simp only [Bool.false_eq_true, if_false] at hbu
                  obtain ⟨w6, rfl⟩ : ∃ w6, w6 = wr := ⟨wr, rfl⟩
                  go_wp2_with (go_at_call 56; refine (HBt.out _).mono ?_; rintro r w' ⟨rfl, hq⟩; have hq := hq.symm; subst hq)
                  go_loopw [16] (fun i wx => ∃ k : Nat, k ≤ h.en ∧ i = .int .i64 k ∧ Hid (∀ j, j < k → 1 ≤ h.ev j ∧ h.ev j ≤ h.n) ∧ Hid (∃ m, wx = w6.drewN m)) (fun i _ => h.en - (intOf i).toNat)
                  case atStart => exact ⟨0, Nat.zero_le _, rfl, hide (fun j hj => absurd hj (Nat.not_lt_zero _)), hide ⟨0, rfl⟩⟩
                  case round =>
                    obtain ⟨k, hk, rfl, Hev, HD⟩ := hrel
                    have hBw : Below w6.heap.size w6 wr := by obtain ⟨m, rfl⟩ := HD.out; exact below_drewN (Below.refl _ _) m
                    have b1x := b1.below hBw b1.lt
                    have x0 := b1x.cell 0
                    have x1 := b1x.cell 1
                    have x2 := b1x.cell 2
                    simp at x0 x1 x2
                    clear z0 z1 z2 e0 e1 e2 E0 E1 E2 d0 d1 d2 c3
                    by_cases hlt : k < h.en
                    · have hki : (k : Int) < (h.en : Int) := by omega
                      have hea := hh.ea (by omega)
                      have hec := (hBw.cell (p := ⟨h.eb, h.eo + k, none⟩) (Nat.lt_of_lt_of_le (hh.el (by omega)) HW.out.size)).trans (HHI.out.ecell k hlt)
                      have HBk := hide (fun (W : World) => between_any (h.ev k) 1 h.n W)
                      by_cases hin1 : 1 ≤ h.ev k ∧ h.ev k ≤ h.n
                      · rw [show (decide ((1 : Int) ≤ h.ev k) && decide (h.ev k ≤ h.n)) = true by simp [hin1]] at HBk
                        have Hin := hide hin1
                        clear hin1
                        go_wp2_with fail
                        go_quiet ((go_at_call 56; exact Calls.quiet_of_same (HBk.out _)))
                        go_wp2
                        go_roundw
                        case rel =>
                          have hn : ∀ j, j < k + 1 → 1 ≤ h.ev j ∧ h.ev j ≤ h.n := fun j hj => by
                            by_cases e : j = k
                            · subst e; exact Hin.out
                            · exact Hev.out j (by omega)
                          have hD2 : Hid (∃ m, wr.drewN nq = w6.drewN m) := hide (by obtain ⟨m, rfl⟩ := HD.out; exact ⟨_, by rw [World.drewN_drewN]⟩)
                          first
                          | exact ⟨k + 1, by omega, by go_num, hide hn, hD2⟩
                          | (rw [← hea]; (repeat apply Exists.intro); exact ⟨⟨k + 1, by omega, by go_num, hide hn, hD2⟩, rfl⟩)
                        case measure => simp [intOf]; omega
                      · rw [show (decide ((1 : Int) ≤ h.ev k) && decide (h.ev k ≤ h.n)) = false by simp; omega] at HBk
                        have Hx : Hid (PlanM.err (.mk h sub) = 3) := hide (by rw [he]; unfold numErr; rw [if_neg (by omega), if_pos (Or.inr (Or.inr (within_false hlt (by omega))))])
                        clear hin1
                        have HEy := hide (fun n => ((bR1.below hBw bR1.lt).drewN n).set3 (.int .i64 0) (.slice none 0 0) (.slice none 0 0))
                        have HEz := hide (fun n => ((bR1.below hBw bR1.lt).drewN n))
                        have Y0 := fun n => (HEz.out n).cell 0
                        have Y1 := fun n => (HEz.out n).cell 1
                        have Y2 := fun n => (HEz.out n).cell 2
                        have Yf := fun n => (HEz.out n).frozen
                        have S0 := fun n => (HEy.out n).cell 0
                        have S1 := fun n => (HEy.out n).cell 1
                        have S2 := fun n => (HEy.out n).cell 2
                        unfold Ytjhkadffaephmaa.set3 at S0 S1 S2
                        simp at Y0 Y1 Y2 S0 S1 S2
                        have yf' := (bR1.below hBw bR1.lt).frozen
                        have HBx := hide (fun n => below3 (below_drewN (HW.out.trans (hBw.mono HW.out.size)) n) (show w.heap.size ≤ w.heap.size + 1 by omega) (.int .i64 0) (.slice none 0 0) (.slice none 0 0))
                        go_wp2_with fail
                        go_quiet ((go_at_call 56; exact Calls.quiet_of_same (HBk.out _)))
                        go_wp2
                        exact bodyPost_ret (v := .tuple #[.agg #[.int .i64 0, .slice none 0 0, .slice none 0 0], .int .i64 3]) (by simp [results, Try.results68, go_sem, S0, S1, S2]) rfl ⟨Or.inr ⟨by rw [Hx.out]; decide, by rw [Hx.out]⟩, HBx.out _⟩
                    · have hke : k = h.en := by omega
                      have hki : (h.en : Int) ≤ (k : Int) := by omega
                      have hev : ∀ j, j < h.en → 1 ≤ h.ev j ∧ h.ev j ≤ h.n := fun j hj => Hev.out j (by omega)
                      have Hx : Hid (PlanM.err (.mk h sub) = 0) := hide (by rw [he]; unfold numErr; rw [if_neg (by omega), if_neg (by rw [within_iff.2 hev]; simp; omega)])
                      obtain ⟨N, hN⟩ : ∃ N : Nat, h.n = (N : Int) := ⟨h.n.toNat, by omega⟩
                      have hNt : h.n.toNat = N := by omega
                      rw [hNt] at hbu
                      obtain ⟨S, hS⟩ : ∃ S : Nat, S = N + 2 := ⟨_, rfl⟩
                      have hok : (hopsN N h.en h.evN).Ok := hops_ok (by omega) (by omega) hen
                      have Hbu := hide hbu
                      have HN := hide hN
                      have HS := hide hS
                      have Hok := hide hok
                      have HEV := hide hev
                      have hS2 : h.n + 2 = (S : Int) := by omega
                      have hS24 : (S : Int) ≤ 24 := by omega
                      have hS24' : S ≤ 24 := by omega
                      have hS3 : 3 ≤ S := by omega
                      obtain ⟨w7, rfl⟩ : ∃ w7, w7 = wr := ⟨wr, rfl⟩
                      clear hke hev hN hNt hS hok hbu he Hev
                      go_wp2_with fail
                      have b17 := Blk.new w7 #[.int .i64 (S : Int), .slice none 0 0, .slice none 0 0] 24
                      have hv7 : Below w7.heap.size w7 (w7.alloc (.cells #[.int .i64 (S : Int), .slice none 0 0, .slice none 0 0] 24)) := (Below.refl _ w7).alloc (Nat.le_refl _) _
                      have hvs : (w7.alloc (.cells #[.int .i64 (S : Int), .slice none 0 0, .slice none 0 0] 24)).heap.size = w7.heap.size + 1 := by simp
                      generalize w7.alloc (.cells #[.int .i64 (S : Int), .slice none 0 0, .slice none 0 0] 24) = V at *
                      obtain ⟨ZB, hZB⟩ : ∃ ZB : Nat → Nat → Int, ZB = fun a b => (((hopsN N h.en h.evN).best a b : Nat) : Int) := ⟨_, rfl⟩
                      obtain ⟨ZE, hZE⟩ : ∃ ZE : Nat → Nat → Int, ZE = fun a b => (((hopsN N h.en h.evN).edge a b : Nat) : Int) := ⟨_, rfl⟩
                      have HZB := hide hZB
                      have HZE := hide hZE
                      clear hZB hZE
                      go_loopw [18] (fun i wx => ∃ (k : Nat) (VB : Value), k ≤ S ∧ i = .int .i64 k ∧ Hid (Blk wx w7.heap.size #[.int .i64 (S : Int), VB, .slice none 0 0] 24) ∧ Hid (OwnTab (w7.heap.size + 1) wx.heap.size VB k S ZB wx) ∧ Hid (Below w7.heap.size V wx)) (fun i _ => S - (intOf i).toNat)
                      case atStart => exact ⟨0, _, Nat.zero_le _, rfl, hide b17, hide (OwnTab.nil _ _ _ _ _), hide (Below.refl _ _)⟩
                      case round =>
                        obtain ⟨i, VB, hi, rfl, H11, HT, HBV⟩ := hrel
                        obtain ⟨wx, rfl⟩ : ∃ wx, wx = wr := ⟨wr, rfl⟩
                        have hwx1 : w7.heap.size + 1 ≤ wx.heap.size := by have := HBV.out.size; omega
                        have hwx9 : w7.heap.size ≤ wx.heap.size := by omega
                        have p0 := H11.out.cell 0
                        simp at p0
                        clear x0 x1 x2 b17
                        by_cases hlt : i < S
                        · have hii : (i : Int) < (S : Int) := by omega
                          go_wp2_with fail
                          go_loopw [19, 20] (fun v j wy => ∃ k : Nat, k ≤ S ∧ j = .int .i64 k ∧ Hid (wy.ownsRow wx.heap.size 3 1 v k (intsL (ZB i) k)) ∧ Hid (Below wx.heap.size wx wy)) (fun _ j _ => S - (intOf j).toNat)
                          case atStart => exact ⟨0, Nat.zero_le _, rfl, hide (World.ownsRow_nil _ _ _ _), hide (Below.refl _ _)⟩
                          case round =>
                            obtain ⟨k, hk, rfl, HO, HB4⟩ := hrel
                            have h11a := H11.out.below HB4.out H11.out.lt
                            have p0' := h11a.cell 0
                            simp at p0'
                            clear p0 h11a
                            by_cases hklt : k < S
                            · have hki : (k : Int) < (S : Int) := by omega
                              by_cases c1 : k < i
                              · have c1i : (k : Int) < (i : Int) := by omega
                                have Hval : Hid (ZB i k = (k : Int)) := hide (by rw [HZB.out]; show ((min i k : Nat) : Int) = _; omega)
                                clear c1
                                go_wp2_with (at_builtin; refine wpList_append_lies _ rfl _ _ _ rfl wx.heap.size 3 i1 _ 1 8 Try.underlying32 hi1 hy0 hy1 hy2 rfl (by decide) _ k _ rfl (HO.out.alloc _) ⟨wr.heap.size, 0, none⟩ 1 1 [.int .i64 (k : Int)] rfl rfl ?c1 ?c2 (by decide) ?c3 ?c4 ?c5 _ rfl ?_)
                                all_goals try (case c1 => exact World.news_of_block (Blk.new' (by simp)))
                                all_goals try (case c2 => simp [Value.oneCell'])
                                all_goals try (case c3 => unfold maxLen; omega)
                                all_goals try (case c4 => omega)
                                all_goals try (case c5 => have := HB4.out.size; simp; omega)
                                intro g' cap' w2 hown2 hgrow hat2 hlt2
                                have HO2 := hide (show w2.ownsRow wx.heap.size 3 1 _ (k + 1) (intsL (ZB i) (k + 1)) by rw [intsL_succ, Hval.out]; exact hown2)
                                have HB2 := hide ((HB4.out.alloc (by have := HB4.out.size; omega) _).trans (grown_below hgrow (fun g hg => (HO.out.lt g hg).1) (by have := HB4.out.size; simp; omega)))
                                clear hown2 hgrow hat2 hlt2
                                go_wp2
                                go_roundw
                                case rel =>
                                  first
                                  | exact ⟨k + 1, by omega, by go_num, HO2, HB2⟩
                                  | ((try rw [← hea]); (repeat apply Exists.intro); exact ⟨⟨k + 1, by omega, by go_num, HO2, HB2⟩, rfl⟩)
                                case measure => simp [intOf]; omega
                              · have c1i : (i : Int) ≤ (k : Int) := by omega
                                have Hval : Hid (ZB i k = (i : Int)) := hide (by rw [HZB.out]; show ((min i k : Nat) : Int) = _; omega)
                                clear c1
                                go_wp2_with (at_builtin; refine wpList_append_lies _ rfl _ _ _ rfl wx.heap.size 3 i1 _ 1 8 Try.underlying32 hi1 hy0 hy1 hy2 rfl (by decide) _ k _ rfl (HO.out.alloc _) ⟨wr.heap.size, 0, none⟩ 1 1 [.int .i64 (i : Int)] rfl rfl ?c1 ?c2 (by decide) ?c3 ?c4 ?c5 _ rfl ?_)
                                all_goals try (case c1 => exact World.news_of_block (Blk.new' (by simp)))
                                all_goals try (case c2 => simp [Value.oneCell'])
                                all_goals try (case c3 => unfold maxLen; omega)
                                all_goals try (case c4 => omega)
                                all_goals try (case c5 => have := HB4.out.size; simp; omega)
                                intro g' cap' w2 hown2 hgrow hat2 hlt2
                                have HO2 := hide (show w2.ownsRow wx.heap.size 3 1 _ (k + 1) (intsL (ZB i) (k + 1)) by rw [intsL_succ, Hval.out]; exact hown2)
                                have HB2 := hide ((HB4.out.alloc (by have := HB4.out.size; omega) _).trans (grown_below hgrow (fun g hg => (HO.out.lt g hg).1) (by have := HB4.out.size; simp; omega)))
                                clear hown2 hgrow hat2 hlt2
                                go_wp2
                                go_roundw
                                case rel =>
                                  first
                                  | exact ⟨k + 1, by omega, by go_num, HO2, HB2⟩
                                  | ((try rw [← hea]); (repeat apply Exists.intro); exact ⟨⟨k + 1, by omega, by go_num, HO2, HB2⟩, rfl⟩)
                                case measure => simp [intOf]; omega
                            · have hke : k = S := by omega
                              subst hke
                              have hki : (k : Int) ≤ (k : Int) := Int.le_refl _
                              obtain ⟨gn, cn, rfl, gn0, gn1⟩ := HO.out.form (by omega)
                              have h11 := H11.out.below HB4.out H11.out.lt
                              obtain ⟨g, c, t1, t2, t3, t4⟩ := HT.out.below HB4.out
                              have n2 := h11.cell 1
                              simp at n2
                              have n2' : ∀ o, (wr.alloc o).cell? ⟨w7.heap.size, 1, none⟩ = some VB := fun o => (h11.alloc o).cell 1
                              have hvb9 : ∀ j, Value.ownBlock VB = some j → w7.heap.size + 1 ≤ j := fun j hj => (t1.lt j hj).1
                              have hlo7 : w7.heap.size + 1 ≤ w7.heap.size + 1 := Nat.le_refl _
                              have Ht1 := hide t1
                              clear t1
                              go_wp2_with (at_builtin; refine wpList_append_lies _ rfl _ _ _ rfl (w7.heap.size + 1) 32 i2 _ 1 24 Try.underlying22 hi2 hx0 hx1 hx2 rfl (by decide) _ i _ rfl (Ht1.out.alloc _) ⟨wr.heap.size, 0, none⟩ 1 1 [.slice (some ⟨gn, 0, none⟩) k cn] rfl rfl ?c1 ?c2 (by decide) ?c3 ?c4 ?c5 _ rfl ?_)
                              all_goals try (case c1 => exact World.news_of_block (Blk.new' (by simp)))
                              all_goals try (case c2 => simp [Value.oneCell'])
                              all_goals try (case c3 => unfold maxLen; omega)
                              all_goals try (case c4 => omega)
                              all_goals try (case c5 => have := HB4.out.size; simp; omega)
                              intro g' cap' w2 hown2 hgrow hat2 hlt2
                              have HTn := hide (OwnTab.push (Z := ZB) (Ht1.out.alloc (.cells #[.slice (some ⟨gn, 0, none⟩) k cn] 32)) t2 (fun r hr => ⟨(t3 r hr).1.alloc _, (t3 r hr).2⟩) t4 (by omega) (HO.out.alloc _) hown2 hgrow (by simpa using hat2))
                              have h112 := blk_grownP (h11.alloc (.cells #[.slice (some ⟨gn, 0, none⟩) k cn] 32)) hgrow (fun e => by have := hvb9 _ e; omega)
                              have HB2 := hide ((HBV.out.trans (HB4.out.mono hwx9)).alloc (by have := HB4.out.size; omega) (.cells #[.slice (some ⟨gn, 0, none⟩) k cn] 32) |>.trans (grown_below hgrow (fun g hg => by have := hvb9 g hg; omega) (by have := HB4.out.size; simp; omega)))
                              have s2' := hgrow.size
                              have m1 := h112.cell 1
                              have mf := h112.frozen
                              simp at m1
                              have H112 := hide h112
                              clear hown2 hgrow hat2 hlt2 Ht1 t2 t3 t4 h11 h112 n2 n2'
                              go_wp2
                              have HBlk := hide (H112.out.set 1 (.slice (some ⟨g', 0, none⟩) (i + 1) cap'))
                              simp at HBlk
                              have hgs : w2.grownBy (w2.setCell ⟨w7.heap.size, 1, none⟩ (.slice (some ⟨g', 0, none⟩) (i + 1) cap')) (some w7.heap.size) := ⟨rfl, rfl, rfl, by simp, fun j _ hne => by
                                show (w2.heap.modify w7.heap.size _)[j]? = _
                                rw [Array.getElem?_modify, if_neg (fun e => hne (by rw [e]))]⟩
                              have HT2 := hide ((HTn.out.kept hgs (fun k hk => Or.inl (by have e : w7.heap.size = k := (by simpa using hk); omega))).mono (Nat.le_refl _) (Nat.le_of_eq (show w2.heap.size = (w2.setCell ⟨w7.heap.size, 1, none⟩ (.slice (some ⟨g', 0, none⟩) (i + 1) cap')).heap.size by simp)))
                              have HB3 := hide (HB2.out.setCell (p := ⟨w7.heap.size, 1, none⟩) (Nat.le_refl _) (.slice (some ⟨g', 0, none⟩) (i + 1) cap'))
                              go_roundw
                              case rel =>
                                first
                                | exact ⟨i + 1, _, by omega, by go_num, HBlk, HT2, HB3⟩
                                | ((try rw [← hea]); (repeat apply Exists.intro); exact ⟨⟨i + 1, _, by omega, by go_num, HBlk, HT2, HB3⟩, rfl⟩)
                              case measure => simp [intOf]; omega
                        · have hie : S = i := by omega
                          subst hie
                          have hii : (S : Int) ≤ (S : Int) := Int.le_refl _
                          obtain ⟨w8, rfl⟩ : ∃ w8, w8 = wx := ⟨wx, rfl⟩
                          have HSEE : Hid (∀ W' : World, Below w7.heap.size V W' → Blk W' w.heap.size #[.int .i64 h.kind, .int .i64 h.n, .slice h.eg h.en h.ec, .slice h.pg h.pn h.pc] 42 ∧ (∀ i, i < h.en → W'.cell? ⟨h.eb, h.eo + i, none⟩ = some (.int .i64 (h.ev i))) ∧ Below w6.heap.size w6 W') := hide (fun W' hb => by
                            have hb6 : Below w6.heap.size w6 W' := (hBw.trans (hv7.mono hBw.size)).trans (hb.mono hBw.size)
                            exact ⟨b1.below hb6 b1.lt, fun i hi => (hb6.cell (p := ⟨h.eb, h.eo + i, none⟩) (Nat.lt_of_lt_of_le (hh.el (by omega)) HW.out.size)).trans (HHI.out.ecell i hi), hb6⟩)
                          obtain ⟨b18, _, _⟩ := HSEE.out w8 HBV.out
                          have y2 := b18.cell 2
                          simp at y2
                          go_wp2_with fail
                          go_loopw [21] (fun i wx => ∃ (k : Nat) (VE : Value), k ≤ h.en ∧ i = .int .i64 k ∧ Hid (Blk wx w7.heap.size #[.int .i64 (S : Int), VB, VE] 24) ∧ Hid (OwnTab (w7.heap.size + 1) w8.heap.size VB S S ZB wx) ∧ Hid (OwnTab w8.heap.size wx.heap.size VE k S ZE wx) ∧ Hid (Below w7.heap.size V wx) ∧ Hid (w8.heap.size ≤ wx.heap.size)) (fun i _ => h.en - (intOf i).toNat)
                          case atStart => exact ⟨0, _, Nat.zero_le _, rfl, H11, HT, hide (OwnTab.nil _ _ _ _ _), HBV, hide (Nat.le_refl _)⟩
                          case round =>
                            clear H11 HT HBV b18 y2 p0
                            obtain ⟨i, VE, hi, rfl, H11, HTB, HTE, HBV, HSZ⟩ := hrel
                            obtain ⟨wx, rfl⟩ : ∃ wx, wx = wr := ⟨wr, rfl⟩
                            have hsz8 := HSZ.out
                            have hwx1' : w7.heap.size + 1 ≤ wx.heap.size := by omega
                            have hwx9' : w7.heap.size ≤ wx.heap.size := by omega
                            obtain ⟨b18, _, hb6x⟩ := HSEE.out wx HBV.out
                            have y2 := b18.cell 2
                            simp at y2
                            have p0 := H11.out.cell 0
                            simp at p0
                            by_cases hlt : i < h.en
                            · have hii' : (i : Int) < (h.en : Int) := by omega
                              have hea := hh.ea (by omega)
                              obtain ⟨ev1, ev2⟩ := HEV.out i hlt
                              go_wp2_with fail
                              go_loopw [22, 23] (fun v j wy => ∃ k : Nat, k ≤ S ∧ j = .int .i64 k ∧ Hid (wy.ownsRow wx.heap.size 3 1 v k (intsL (ZE i) k)) ∧ Hid (Below wx.heap.size wx wy)) (fun _ j _ => S - (intOf j).toNat)
                              case atStart => exact ⟨0, Nat.zero_le _, rfl, hide (World.ownsRow_nil _ _ _ _), hide (Below.refl _ _)⟩
                              case round =>
                                obtain ⟨k, hk, rfl, HO, HB4⟩ := hrel
                                clear b18 y2 p0
                                have h11a := H11.out.below HB4.out H11.out.lt
                                obtain ⟨b19, cev, _⟩ := HSEE.out wr (HBV.out.trans (HB4.out.mono hwx9'))
                                have p0 := h11a.cell 0
                                have x0 := b19.cell 0
                                have x1 := b19.cell 1
                                have x2 := b19.cell 2
                                have xe := cev i hlt
                                simp at p0 x0 x1 x2
                                have hNN := HN.out
                                have hSS := HS.out
                                have hevN : (h.evN i : Int) = h.ev i := by unfold PHead.evN; omega
                                by_cases hklt : k < S
                                · have hki : (k : Int) < (S : Int) := by omega
                                  by_cases c1 : k + 1 = S
                                  · have q1 : ((k : Int) == (S : Int) - 1) = true := by simp; omega
                                    have Hval : Hid (ZE i k = ((S : Int) - 1)) := hide (by rw [HZE.out]; show ((min (k + h.evN i) (N + 1) : Nat) : Int) = _; omega)
                                    have q2 : h.ev i ≤ (k : Int) := by omega
                                    clear c1 hNN hSS hevN h11a b19 cev
                                    go_wp2_with (at_builtin; refine wpList_append_lies _ rfl _ _ _ rfl wx.heap.size 3 i1 _ 1 8 Try.underlying32 hi1 hy0 hy1 hy2 rfl (by decide) _ k _ rfl (HO.out.alloc _) ⟨wr.heap.size, 0, none⟩ 1 1 [.int .i64 ((S : Int) - 1 : Int)] rfl rfl ?c1 ?c2 (by decide) ?c3 ?c4 ?c5 _ rfl ?_)
                                    all_goals try (case c1 => exact World.news_of_block (Blk.new' (by simp)))
                                    all_goals try (case c2 => simp [Value.oneCell'])
                                    all_goals try (case c3 => unfold maxLen; omega)
                                    all_goals try (case c4 => omega)
                                    all_goals try (case c5 => have := HB4.out.size; simp; omega)
                                    intro g' cap' w2 hown2 hgrow hat2 hlt2
                                    have HO2 := hide (show w2.ownsRow wx.heap.size 3 1 _ (k + 1) (intsL (ZE i) (k + 1)) by rw [intsL_succ, Hval.out]; exact hown2)
                                    have HB2 := hide ((HB4.out.alloc (by have := HB4.out.size; omega) _).trans (grown_below hgrow (fun g hg => (HO.out.lt g hg).1) (by have := HB4.out.size; simp; omega)))
                                    clear hown2 hgrow hat2 hlt2
                                    go_wp2
                                    go_roundw
                                    case rel =>
                                      first
                                      | exact ⟨k + 1, by omega, by go_num, HO2, HB2⟩
                                      | ((try rw [← hea]); (repeat apply Exists.intro); exact ⟨⟨k + 1, by omega, by go_num, HO2, HB2⟩, rfl⟩)
                                    case measure => simp [intOf]; omega
                                  · have q1 : ((k : Int) == (S : Int) - 1) = false := by simp; omega
                                    by_cases c2 : h.n < (k : Int) + h.ev i
                                    · have Hval : Hid (ZE i k = ((S : Int) - 1)) := hide (by rw [HZE.out]; show ((min (k + h.evN i) (N + 1) : Nat) : Int) = _; omega)
                                      clear c1 hNN hSS hevN h11a b19 cev
                                      go_wp2_with (at_builtin; refine wpList_append_lies _ rfl _ _ _ rfl wx.heap.size 3 i1 _ 1 8 Try.underlying32 hi1 hy0 hy1 hy2 rfl (by decide) _ k _ rfl (HO.out.alloc _) ⟨wr.heap.size, 0, none⟩ 1 1 [.int .i64 ((S : Int) - 1 : Int)] rfl rfl ?c1 ?c2 (by decide) ?c3 ?c4 ?c5 _ rfl ?_)
                                      all_goals try (case c1 => exact World.news_of_block (Blk.new' (by simp)))
                                      all_goals try (case c2 => simp [Value.oneCell'])
                                      all_goals try (case c3 => unfold maxLen; omega)
                                      all_goals try (case c4 => omega)
                                      all_goals try (case c5 => have := HB4.out.size; simp; omega)
                                      intro g' cap' w2 hown2 hgrow hat2 hlt2
                                      have HO2 := hide (show w2.ownsRow wx.heap.size 3 1 _ (k + 1) (intsL (ZE i) (k + 1)) by rw [intsL_succ, Hval.out]; exact hown2)
                                      have HB2 := hide ((HB4.out.alloc (by have := HB4.out.size; omega) _).trans (grown_below hgrow (fun g hg => (HO.out.lt g hg).1) (by have := HB4.out.size; simp; omega)))
                                      clear hown2 hgrow hat2 hlt2
                                      go_wp2
                                      go_roundw
                                      case rel =>
                                        first
                                        | exact ⟨k + 1, by omega, by go_num, HO2, HB2⟩
                                        | ((try rw [← hea]); (repeat apply Exists.intro); exact ⟨⟨k + 1, by omega, by go_num, HO2, HB2⟩, rfl⟩)
                                      case measure => simp [intOf]; omega
                                    · have q3 : (k : Int) + h.ev i ≤ h.n := by omega
                                      have Hval : Hid (ZE i k = (k : Int) + h.ev i) := hide (by rw [HZE.out]; show ((min (k + h.evN i) (N + 1) : Nat) : Int) = _; omega)
                                      clear c1 c2 hNN hSS hevN h11a b19 cev
                                      go_wp2_with (at_builtin; refine wpList_append_lies _ rfl _ _ _ rfl wx.heap.size 3 i1 _ 1 8 Try.underlying32 hi1 hy0 hy1 hy2 rfl (by decide) _ k _ rfl (HO.out.alloc _) ⟨wr.heap.size, 0, none⟩ 1 1 [.int .i64 ((k : Int) + h.ev i : Int)] rfl rfl ?c1 ?c2 (by decide) ?c3 ?c4 ?c5 _ rfl ?_)
                                      all_goals try (case c1 => exact World.news_of_block (Blk.new' (by simp)))
                                      all_goals try (case c2 => simp [Value.oneCell'])
                                      all_goals try (case c3 => unfold maxLen; omega)
                                      all_goals try (case c4 => omega)
                                      all_goals try (case c5 => have := HB4.out.size; simp; omega)
                                      intro g' cap' w2 hown2 hgrow hat2 hlt2
                                      have HO2 := hide (show w2.ownsRow wx.heap.size 3 1 _ (k + 1) (intsL (ZE i) (k + 1)) by rw [intsL_succ, Hval.out]; exact hown2)
                                      have HB2 := hide ((HB4.out.alloc (by have := HB4.out.size; omega) _).trans (grown_below hgrow (fun g hg => (HO.out.lt g hg).1) (by have := HB4.out.size; simp; omega)))
                                      clear hown2 hgrow hat2 hlt2
                                      go_wp2
                                      go_roundw
                                      case rel =>
                                        first
                                        | exact ⟨k + 1, by omega, by go_num, HO2, HB2⟩
                                        | ((try rw [← hea]); (repeat apply Exists.intro); exact ⟨⟨k + 1, by omega, by go_num, HO2, HB2⟩, rfl⟩)
                                      case measure => simp [intOf]; omega
                                · have hke : S = k := by omega
                                  subst hke
                                  have hki : (S : Int) ≤ (S : Int) := Int.le_refl _
                                  clear hNN hSS hevN h11a b19 cev x0 x1 x2 xe
                                  obtain ⟨gn, cn, rfl, gn0, gn1⟩ := HO.out.form (by omega)
                                  have h11 := H11.out.below HB4.out H11.out.lt
                                  obtain ⟨g, c, t1, t2, t3, t4⟩ := HTE.out.below HB4.out
                                  have HTB2 := hide (HTB.out.below HB4.out)
                                  have n2 := h11.cell 2
                                  simp at n2
                                  have n2' : ∀ o, (wr.alloc o).cell? ⟨w7.heap.size, 2, none⟩ = some VE := fun o => (h11.alloc o).cell 2
                                  have hvb9 : ∀ j, Value.ownBlock VE = some j → w8.heap.size ≤ j := fun j hj => (t1.lt j hj).1
                                  have hlo7 : w7.heap.size + 1 ≤ w8.heap.size := by omega
                                  have Ht1 := hide t1
                                  clear t1
                                  go_wp2_with (at_builtin; refine wpList_append_lies _ rfl _ _ _ rfl (w8.heap.size) 32 i2 _ 1 24 Try.underlying22 hi2 hx0 hx1 hx2 rfl (by decide) _ i _ rfl (Ht1.out.alloc _) ⟨wr.heap.size, 0, none⟩ 1 1 [.slice (some ⟨gn, 0, none⟩) S cn] rfl rfl ?c1 ?c2 (by decide) ?c3 ?c4 ?c5 _ rfl ?_)
                                  all_goals try (case c1 => exact World.news_of_block (Blk.new' (by simp)))
                                  all_goals try (case c2 => simp [Value.oneCell'])
                                  all_goals try (case c3 => unfold maxLen; omega)
                                  all_goals try (case c4 => omega)
                                  all_goals try (case c5 => have := HB4.out.size; simp; omega)
                                  intro g' cap' w2 hown2 hgrow hat2 hlt2
                                  have HTn := hide (OwnTab.push (Z := ZE) (Ht1.out.alloc (.cells #[.slice (some ⟨gn, 0, none⟩) S cn] 32)) t2 (fun r hr => ⟨(t3 r hr).1.alloc _, (t3 r hr).2⟩) t4 (by omega) (HO.out.alloc _) hown2 hgrow (by simpa using hat2))
                                  have h112 := blk_grownP (h11.alloc (.cells #[.slice (some ⟨gn, 0, none⟩) S cn] 32)) hgrow (fun e => by have := hvb9 _ e; omega)
                                  have HB2 := hide ((HBV.out.trans (HB4.out.mono hwx9')).alloc (by have := HB4.out.size; omega) (.cells #[.slice (some ⟨gn, 0, none⟩) S cn] 32) |>.trans (grown_below hgrow (fun g hg => by have := hvb9 g hg; omega) (by have := HB4.out.size; simp; omega)))
                                  have s2' := hgrow.size
                                  have HTB3 := hide ((HTB2.out.alloc (.cells #[.slice (some ⟨gn, 0, none⟩) S cn] 32)).kept hgrow (fun j hj => Or.inr (hvb9 j hj)))
                                  have m1 := h112.cell 2
                                  have mf := h112.frozen
                                  simp at m1
                                  have H112 := hide h112
                                  clear hown2 hgrow hat2 hlt2 Ht1 t2 t3 t4 h11 h112 n2 n2'
                                  go_wp2
                                  have HBlk := hide (H112.out.set 2 (.slice (some ⟨g', 0, none⟩) (i + 1) cap'))
                                  simp at HBlk
                                  have hgs : w2.grownBy (w2.setCell ⟨w7.heap.size, 2, none⟩ (.slice (some ⟨g', 0, none⟩) (i + 1) cap')) (some w7.heap.size) := ⟨rfl, rfl, rfl, by simp, fun j _ hne => by
                                    show (w2.heap.modify w7.heap.size _)[j]? = _
                                    rw [Array.getElem?_modify, if_neg (fun e => hne (by rw [e]))]⟩
                                  have HT2 := hide ((HTn.out.kept hgs (fun k hk => Or.inl (by have e : w7.heap.size = k := (by simpa using hk); omega))).mono (Nat.le_refl _) (Nat.le_of_eq (show w2.heap.size = (w2.setCell ⟨w7.heap.size, 2, none⟩ (.slice (some ⟨g', 0, none⟩) (i + 1) cap')).heap.size by simp)))
                                  have HB3 := hide (HB2.out.setCell (p := ⟨w7.heap.size, 2, none⟩) (Nat.le_refl _) (.slice (some ⟨g', 0, none⟩) (i + 1) cap'))
                                  have HTB4 := hide (HTB3.out.kept hgs (fun k hk => Or.inl (by have e : w7.heap.size = k := (by simpa using hk); omega)))
                                  have HSZ4 := hide (show w8.heap.size ≤ (w2.setCell ⟨w7.heap.size, 2, none⟩ (.slice (some ⟨g', 0, none⟩) (i + 1) cap')).heap.size by have := HB4.out.size; simp at s2'; simp; omega)
                                  go_roundw
                                  case rel =>
                                    first
                                    | exact ⟨i + 1, _, by omega, by go_num, HBlk, HTB4, HT2, HB3, HSZ4⟩
                                    | ((try rw [← hea]); (repeat apply Exists.intro); exact ⟨⟨i + 1, _, by omega, by go_num, HBlk, HTB4, HT2, HB3, HSZ4⟩, rfl⟩)
                                  case measure => simp [intOf]; omega
                            · have hie : i = h.en := by omega
                              have hii' : (h.en : Int) ≤ (i : Int) := by omega
                              subst hie
                              obtain ⟨gaB, capB, rfl⟩ := HTB.out.form
                              obtain ⟨gaE, capE, rfl⟩ := HTE.out.form
                              have n1 := H11.out.cell 1
                              have n2 := H11.out.cell 2
                              simp at n1 n2
                              have bR8 := bR1.below hb6x bR1.lt
                              have y0 := bR8.cell 0
                              have y1 := bR8.cell 1
                              have y3 := bR8.cell 2
                              have yf := bR8.frozen
                              have bR9 := bR8.set3 (.int .i64 (S : Int)) (.slice gaB S capB) (.slice gaE h.en capE)
                              have s0 := bR9.cell 0
                              have s1 := bR9.cell 1
                              have s2 := bR9.cell 2
                              unfold Ytjhkadffaephmaa.set3 at s0 s1 s2
                              simp at y0 y1 y3 s0 s1 s2
                              have HA : Hid (RefAns (.mk h sub) w.heap.size (.returned (.tuple #[.agg #[.int .i64 (S : Int), .slice gaB S capB, .slice gaE h.en capE], .int .i64 0])) (set3 wx (w.heap.size + 1) (.int .i64 (S : Int)) (.slice gaB S capB) (.slice gaE h.en capE))) := hide (Or.inl ⟨Hx.out, _, _, by rw [Hbu.out, show (hopsN N h.en h.evN).size = S from HS.out.symm], by
                                rw [Hbu.out]
                                refine (tabs_set3 (lo := w7.heap.size + 1) ⟨w8.heap.size, by omega, hsz8, ?_, ?_⟩ (by have := hBw.size; have := HW.out.size; omega) _ _ _).lower (by have := hBw.size; have := HW.out.size; omega)
                                · have := HTB.out
                                  rw [HZB.out] at this
                                  rw [show (hopsN N h.en h.evN).size = S from HS.out.symm]
                                  exact this
                                · have := HTE.out
                                  rw [HZE.out] at this
                                  rw [show (hopsN N h.en h.evN).size = S from HS.out.symm]
                                  exact this⟩)
                              have HB6 := hide (below3 (HW.out.trans (hb6x.mono HW.out.size)) (show w.heap.size ≤ w.heap.size + 1 by omega) (.int .i64 (S : Int)) (.slice gaB S capB) (.slice gaE h.en capE))
                              clear HTB HTE bR8 bR9 hb6x
                              go_wp2
                              exact bodyPost_ret (v := .tuple #[.agg #[.int .i64 (S : Int), .slice gaB S capB, .slice gaE h.en capE], .int .i64 0]) (by simp [results, Try.results68, go_sem, s0, s1, s2]) rfl ⟨HA.out, HB6.out⟩
              · have HBt := hide (between_any h.n 1 22 wr)
                rw [show (decide ((1 : Int) ≤ h.n) && decide (h.n ≤ 22)) = false by simp; omega] at HBt
                have Hx : Hid (PlanM.err (.mk h sub) = 3) := hide (by rw [he]; unfold numErr; rw [if_neg (by omega), if_pos (by omega)])
                clear g1 g2 he hbu
                cases t12 with
                | true =>
                  simp only [Bool.not_true] at ft1
                  go_wp2_with (go_at_call 56; refine HBt.out.mono ?_; rintro r w' ⟨rfl, rfl⟩)
                  exact bodyPost_ret (v := .tuple #[.agg #[.int .i64 0, .slice none 0 0, .slice none 0 0], .int .i64 3]) (by simp [results, Try.results68, go_sem, e0, e1, e2]) rfl ⟨Or.inr ⟨by rw [Hx.out]; decide, by rw [Hx.out]⟩, HBe.out⟩
                | false =>
                  simp only [Bool.not_false] at ft1
                  go_wp2_with (go_at_call 56; refine HBt.out.mono ?_; rintro r w' ⟨rfl, rfl⟩)
                  exact bodyPost_ret (v := .tuple #[.agg #[.int .i64 0, .slice none 0 0, .slice none 0 0], .int .i64 3]) (by simp [results, Try.results68, go_sem, e0, e1, e2]) rfl ⟨Or.inr ⟨by rw [Hx.out]; decide, by rw [Hx.out]⟩, HBe.out⟩
            · have f5 : ((h.pn : Int) != 0) = true := by simp [g1]
              have Hx : Hid (PlanM.err (.mk h sub) = 1) := hide (by rw [he]; unfold numErr; rw [if_pos g1])
              clear g1 he hbu
              cases t12 with
              | true =>
                simp only [Bool.not_true] at ft1
                go_wp2
                exact bodyPost_ret (v := .tuple #[.agg #[.int .i64 0, .slice none 0 0, .slice none 0 0], .int .i64 1]) (by simp [results, Try.results68, go_sem, e0, e1, e2]) rfl ⟨Or.inr ⟨by rw [Hx.out]; decide, by rw [Hx.out]⟩, HBe.out⟩
              | false =>
                simp only [Bool.not_false] at ft1
                go_wp2
                exact bodyPost_ret (v := .tuple #[.agg #[.int .i64 0, .slice none 0 0, .slice none 0 0], .int .i64 1]) (by simp [results, Try.results68, go_sem, e0, e1, e2]) rfl ⟨Or.inr ⟨by rw [Hx.out]; decide, by rw [Hx.out]⟩, HBe.out⟩
        · have f1 : (h.kind == 1) = false := by simp; omega
          have f2 : (h.kind == 2) = false := by simp; omega
          have f3 : (h.kind == 3) = false := by simp; omega
          have f4 : (h.kind == 4) = false := by simp; omega
          have Hx : Hid (PlanM.err (.mk h sub) = 7) := hide (by rw [Hp.out]; unfold headErr; rw [if_neg (by omega), if_neg (by omega), if_neg (by omega)])
          clear kk
          go_wp2
          exact bodyPost_ret (v := .tuple #[.agg #[.int .i64 0, .slice none 0 0, .slice none 0 0], .int .i64 7]) (by simp [results, Try.results68, go_sem, e0, e1, e2]) rfl ⟨Or.inr ⟨by rw [Hx.out]; decide, by rw [Hx.out]⟩, HBe.out⟩

end Go.Proofs.Ytjhkadffaephmaa
