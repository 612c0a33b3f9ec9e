/-
  plan.measure.
-/
import Derived.Test.YtjhkadffaephmaaPlanD
import Derived.Test.YtjhkadffaephmaaHoldsF
import Derived.Test.YtjhkadffaephmaaRowLib
import Derived.Deep.AppendLies
import Derived.Lib.SmallJoins
import Derived.Laws.OwnMore
namespace Go.Proofs.Ytjhkadffaephmaa
set_option maxRecDepth 100000
open Go.RowKit

theorem Try.infoShape : (Try.prog.info? 103).map (fun i => (i.zero, i.size, i.bytes)) = some (some (.agg #[.int .i64 0, .int .i64 0]), 2, 16) := by kernel_rfl

/-- The cells of the shapes of the first k parts. -/
def shapesL (s g : Nat → Nat) : Nat → List Value
  | 0 => []
  | k + 1 => shapesL s g k ++ [.int .i64 (s k), .int .i64 (g k)]
theorem shapesL_len (s g : Nat → Nat) (k : Nat) : (shapesL s g k).length = k * 2 := by
  induction k with
  | zero => rfl
  | succ k ih => simp [shapesL, ih]; omega
theorem shapesL_get (s g : Nat → Nat) {k i : Nat} (h : i < k) : (shapesL s g k)[i * 2]? = some (.int .i64 (s i)) ∧ (shapesL s g k)[i * 2 + 1]? = some (.int .i64 (g i)) := by
  induction k with
  | zero => omega
  | succ k ih =>
    simp only [shapesL]
    by_cases e : i = k
    · subst e
      rw [List.getElem?_append_right (by rw [shapesL_len]; omega), List.getElem?_append_right (by rw [shapesL_len]; omega), shapesL_len]
      simp
    · rw [List.getElem?_append_left (by rw [shapesL_len]; omega), List.getElem?_append_left (by rw [shapesL_len]; omega)]
      exact ih (by omega)

theorem shapes_of_row {w : World} {B n : Nat} {v : Value} {s g : Nat → Nat} (h : w.ownsRow B 103 2 v n (shapesL s g n)) : ∃ ga gb cap, v = .slice ga n cap ∧ Shapes ga n gb s g w := by
  rcases Go.Joins.ownsRow_forms h with ⟨rfl, rfl⟩ | ⟨gb, cap, rfl⟩
  · exact ⟨none, 0, 0, rfl, ⟨fun h => by omega, fun h => by omega, fun i h => by omega, fun i h => by omega⟩⟩
  · refine ⟨_, gb, cap, rfl, ⟨fun _ => rfl, fun _ => (h.lt gb rfl).2, fun i hi => ?_, fun i hi => ?_⟩⟩
    · rw [h.cellAt (i * 2) (by omega)]; exact (shapesL_get s g hi).1
    · rw [h.cellAt (i * 2 + 1) (by omega)]; exact (shapesL_get s g hi).2

theorem err_part {h : PHead} {sub : Nat → PlanM} {k : Nat} (hk : k < h.pn) (h0 : ∀ j, j < k → (sub j).err = 0) (he : (sub k).err ≠ 0) : (PlanM.mk h sub).err = (sub k).err := by
  have := firstErr_at (f := fun i => (sub i).err) hk h0 he
  rw [err_mk, if_neg (by rw [this]; exact he), this]
theorem err_head {h : PHead} {sub : Nat → PlanM} (h0 : ∀ j, j < h.pn → (sub j).err = 0) : (PlanM.mk h sub).err = headErr h (fun i => (sub i).size) (fun i => (sub i).edges) := by
  rw [err_mk, if_pos (firstErr_zero.2 h0)]

set_option maxHeartbeats 4000000 in
theorem measure_any (p : PlanM) : ∀ (w : World), p.In w.heap.size w →
    Calls Try.prog 70 #[p.head.val] w fun e w' => Measured p.err p.size p.edges e ∧ Below w.heap.size w w' := by
  induction p using PlanM.ind with
  | no => exact fun _ h => False.elim h
  | mk h sub ih =>
    intro w hin
    have IH := hide ih
    clear ih
    obtain ⟨hh, hs⟩ := hin
    have hpl := hh.plen
    have hb0 : Below w.heap.size w ((w.alloc (.cells h.cells 42)).alloc (.cells #[.int .i64 0, .int .i64 0] 103)) := ((Below.refl _ w).alloc (Nat.le_refl _) _).alloc (by simp) _
    have b0 := (Blk.new w h.cells 42).alloc (.cells #[.int .i64 0, .int .i64 0] 103)
    have bR : Blk ((w.alloc (.cells h.cells 42)).alloc (.cells #[.int .i64 0, .int .i64 0] 103)) (w.heap.size + 1) #[.int .i64 0, .int .i64 0] 103 := Blk.new' (by simp)
    obtain ⟨i0, hi0, hz0, hz1, hz2⟩ := info_parts Try.infoShape
    simp only [head_mk, PHead.val, PHead.cells] at *
    have c3 := b0.cell 3
    simp at c3
    have HE := hide (err_mk h sub)
    go_enter Try.func70, Try.ntmps70
    go_wp2
    generalize hW2 : ((w.alloc (.cells #[.int .i64 h.kind, .int .i64 h.n, .slice h.eg h.en h.ec, .slice h.pg h.pn h.pc] 42)).alloc (.cells #[.int .i64 0, .int .i64 0] 103)) = W2 at *
    have hsz : W2.heap.size = w.heap.size + 2 := by rw [← hW2]; simp
    clear hW2
    go_loopw [4, 12] (fun v i wr => ∃ k : Nat, k ≤ h.pn ∧ i = .int .i64 k ∧ Hid (∀ j, j < k → (sub j).err = 0) ∧ Hid (wr.ownsRow (w.heap.size + 2) 103 2 v k (shapesL (fun j => (sub j).size) (fun j => (sub j).edges) k)) ∧ Hid (Below (w.heap.size + 2) W2 wr)) (fun _ i _ => h.pn - (intOf i).toNat)
    case atStart => exact ⟨0, Nat.zero_le _, rfl, hide (fun j hj => absurd hj (Nat.not_lt_zero _)), hide ⟨rfl, Or.inl ⟨rfl, rfl⟩⟩, hide (Below.refl _ _)⟩
    case round =>
      obtain ⟨k, hk, rfl, Hall, Hown, HB⟩ := hrel
      have HW := hide (hb0.trans (HB.out.mono (by omega)))
      have b1 := b0.below HB.out (by omega)
      have bR1 := bR.below HB.out (by omega)
      by_cases hlt : k < h.pn
      · obtain ⟨hat, hsub⟩ := hs k hlt
        have hpa := hh.pa (by omega)
        have hat' := hat.below HW.out (hh.pl (by omega))
        have q0 := hat'.c0
        have q1 := hat'.c1
        have q2 := hat'.c2
        have q3 := hat'.c3
        have HI := hide ((hsub.grown HW.out).grown ((Below.refl _ wr).alloc (Nat.le_refl _) (.cells (sub k).head.cells 42)))
        simp only [PHead.cells] at HI
        go_wp2_with fail
        go_at_call 70
        refine (IH.out k _ HI.out).mono ?_
        rintro e w1 ⟨⟨s, g, rfl, hsg⟩, hb1⟩
        have hB1 := hide (HB.out.trans (((Below.refl _ wr).alloc (Nat.le_refl _) (.cells #[.int .i64 (sub k).head.kind, .int .i64 (sub k).head.n, .slice (sub k).head.eg (sub k).head.en (sub k).head.ec, .slice (sub k).head.pg (sub k).head.pn (sub k).head.pc] 42)).trans (hb1.mono (by simp)) |>.mono (by have := HB.out.size; omega)))
        have Hown1 := hide (owns_below (Hown.out.alloc (.cells #[.int .i64 (sub k).head.kind, .int .i64 (sub k).head.n, .slice (sub k).head.eg (sub k).head.en (sub k).head.ec, .slice (sub k).head.pg (sub k).head.pn (sub k).head.pc] 42)) hb1)
        have hs1 : w.heap.size + 2 ≤ w1.heap.size := by have := hB1.out.size; omega
        have bR2 := bR.below hB1.out (by omega)
        have HW1 := hide (hb0.trans (hB1.out.mono (by omega)))
        clear hb1 HI q0 q1 q2 q3 hat hat' hsub bR1 b1 HW
        by_cases he : (sub k).err = 0
        · obtain ⟨rfl, rfl⟩ := hsg he
          have hne : ((sub k).err != 0) = false := by simp [he]
          have He := hide he
          clear he hsg
          go_wp2_with (at_builtin; refine wpList_append_lies _ rfl _ _ _ rfl (w.heap.size + 2) 103 i0 _ 2 16 Try.underlying145 hi0 hz0 hz1 hz2 rfl (by decide) _ k _ rfl ((Hown1.out.alloc _).alloc _) ⟨w1.heap.size + 1, 0, none⟩ 1 1 [.int .i64 (sub k).size, .int .i64 (sub k).edges] rfl rfl ?c1 ?c2 (by decide) ?c3 ?c4 ?c5 _ rfl ?_)
          case c1 => exact World.news_of_block (Blk.new' (by simp))
          case c2 => simp [Value.oneCell']
          case c3 => unfold maxLen; omega
          case c4 => omega
          case c5 => simp; omega
          intro g' cap w2 hown2 hgrow hat2 hlt2
          have hB2 := hide (((hB1.out.alloc (by omega) _).alloc (by simp; omega) _).trans (grown_below hgrow (fun g hg => (Hown1.out.lt g hg).1) (by simp; omega)))
          have Hown2 := hide hown2
          clear hown2 hgrow hat2 hlt2 Hown1 hB1 HW1 bR2
          go_wp2
          go_roundw
          case rel =>
            have hn : ∀ j, j < k + 1 → (sub j).err = 0 := fun j hj => by
              by_cases e : j = k
              · subst e; exact He.out
              · exact Hall.out j (by omega)
            first
            | exact ⟨k + 1, by omega, by go_num, hide hn, Hown2, hB2⟩
            | (rw [← hpa]; (repeat apply Exists.intro); exact ⟨⟨k + 1, by omega, by go_num, hide hn, Hown2, hB2⟩, rfl⟩)
          case measure => simp [intOf]; omega
        · have hne : ((sub k).err != 0) = true := by simp [he]
          have Hp := hide (err_part hlt Hall.out he)
          have Hne := hide he
          clear he hsg
          have bR3 := bR2.alloc (.cells #[.int .i64 s, .int .i64 g] 103)
          have d0 := bR3.cell 0
          have d1 := bR3.cell 1
          have df := bR3.frozen
          simp at d0 d1
          go_wp2
          have bR4 := bR3.set2 (.int .i64 0) (.int .i64 0)
          have e0 := bR4.cell 0
          have e1 := bR4.cell 1
          simp at e0 e1
          refine bodyPost_ret (v := .tuple #[.agg #[.int .i64 0, .int .i64 0], .int .i64 (sub k).err]) (by simp [results, Try.results70, go_sem, e0, e1]) rfl ⟨by rw [Hp.out]; exact measured_err Hne.out, ?_⟩
          first
          | exact below_set2 (HW1.out.alloc HW1.out.size _) (by omega) _ _
          | exact (below_set2 HW1.out (by omega) _ _).alloc (by have := HW1.out.size; simp; omega) _
      · have hkp : k = h.pn := by omega
        subst hkp
        have Hr := hide (fun i hi => size_range (Hall.out i hi))
        have Hp := hide (err_head (h := h) (sub := sub) Hall.out)
        obtain ⟨ga, gb, cap, rfl, hsh⟩ := shapes_of_row Hown.out
        have HHI := hide ((hh.below HW.out (Nat.le_refl _)).mono HW.out.size)
        have HM1 := hide (measureNumbers_any h wr HHI.out)
        have HM3 := hide (measurePair_any h ga cap gb _ _ wr HHI.out hsh Hr.out)
        have HM4 := hide (measureFilter_any h ga cap gb _ _ wr HHI.out hsh Hr.out)
        have z0 := b1.cell 0
        have z1 := b1.cell 1
        have z2 := b1.cell 2
        have z3 := b1.cell 3
        simp at z0 z1 z2 z3
        simp only [PHead.val, PHead.cells] at HM1 HM3 HM4
        have hend : ∀ (w4 : World), Below wr.heap.size wr w4 → Blk w4 (w.heap.size + 1) #[.int .i64 0, .int .i64 0] 103 ∧ Below w.heap.size w w4 := fun w4 hb => ⟨bR1.below hb bR1.lt, HW.out.trans (hb.mono HW.out.size)⟩
        have Hend := hide hend
        clear hend hsh Hown Hall
        by_cases k1 : h.kind = 1
        · have hkd := k1
          have f1 : (h.kind == 1) = true := by simp [k1]
          clear k1
          have Hx : Hid (PlanM.err (.mk h sub) = numErr h) := hide (by rw [Hp.out]; unfold headErr; simp [hkd])
          have Hy : Hid (PlanM.size (.mk h sub) = h.n.toNat + 2 ∧ PlanM.edges (.mk h sub) = h.en) := hide (by simp [PlanM.size, PlanM.edges, hkd])
          clear hkd
          generalize numErr h = xx at *
          go_wp2_with fail
          go_at_call 110
          refine HM1.out.mono ?_
          rintro e w4 ⟨⟨s, g, rfl, hsg⟩, hb4⟩
          obtain ⟨bR4, hW4⟩ := Hend.out w4 hb4
          have Hsg := hide hsg
          clear hsg hb4 b1 bR1 bR b0 z0 z1 z2 z3
          have d0 := bR4.cell 0
          have d1 := bR4.cell 1
          have df := bR4.frozen
          simp at d0 d1
          go_wp2
          have bR5 := bR4.set2 (.int .i64 s) (.int .i64 g)
          have e0 := bR5.cell 0
          have e1 := bR5.cell 1
          simp at e0 e1
          refine bodyPost_ret (v := .tuple #[.agg #[.int .i64 s, .int .i64 g], .int .i64 xx]) (by simp [results, Try.results70, go_sem, e0, e1]) rfl ⟨by rw [Hx.out, Hy.out.1, Hy.out.2]; exact ⟨s, g, rfl, Hsg.out⟩, below_set2 hW4 (by omega) _ _⟩
        by_cases k2 : h.kind = 2
        · have hkd := k2
          have f1 : (h.kind == 1) = false := by simp [k2]
          have f2 : (h.kind == 2) = true := by simp [k2]
          clear k1 k2
          have Hx : Hid (PlanM.err (.mk h sub) = numErr h) := hide (by rw [Hp.out]; unfold headErr; simp [hkd])
          have Hy : Hid (PlanM.size (.mk h sub) = h.n.toNat + 2 ∧ PlanM.edges (.mk h sub) = h.en) := hide (by simp [PlanM.size, PlanM.edges, hkd])
          clear hkd
          generalize numErr h = xx at *
          go_wp2_with fail
          go_at_call 110
          refine HM1.out.mono ?_
          rintro e w4 ⟨⟨s, g, rfl, hsg⟩, hb4⟩
          obtain ⟨bR4, hW4⟩ := Hend.out w4 hb4
          have Hsg := hide hsg
          clear hsg hb4 b1 bR1 bR b0 z0 z1 z2 z3
          have d0 := bR4.cell 0
          have d1 := bR4.cell 1
          have df := bR4.frozen
          simp at d0 d1
          go_wp2
          have bR5 := bR4.set2 (.int .i64 s) (.int .i64 g)
          have e0 := bR5.cell 0
          have e1 := bR5.cell 1
          simp at e0 e1
          refine bodyPost_ret (v := .tuple #[.agg #[.int .i64 s, .int .i64 g], .int .i64 xx]) (by simp [results, Try.results70, go_sem, e0, e1]) rfl ⟨by rw [Hx.out, Hy.out.1, Hy.out.2]; exact ⟨s, g, rfl, Hsg.out⟩, below_set2 hW4 (by omega) _ _⟩
        by_cases k3 : h.kind = 3
        · have hkd := k3
          have f1 : (h.kind == 1) = false := by simp [k3]
          have f2 : (h.kind == 2) = false := by simp [k3]
          have f3 : (h.kind == 3) = true := by simp [k3]
          clear k1 k2 k3
          have Hx : Hid (PlanM.err (.mk h sub) = pairErr h (fun j => (sub j).size) (fun j => (sub j).edges)) := hide (by rw [Hp.out]; unfold headErr; simp [hkd])
          have Hy : Hid (PlanM.size (.mk h sub) = ((sub 0).size - 1) * ((sub 1).size - 1) + 1 ∧ PlanM.edges (.mk h sub) = (sub 0).edges) := hide (by simp [PlanM.size, PlanM.edges, hkd])
          clear hkd
          generalize pairErr h (fun j => (sub j).size) (fun j => (sub j).edges) = xx at *
          go_wp2_with fail
          go_at_call 111
          refine HM3.out.mono ?_
          rintro e w4 ⟨⟨s, g, rfl, hsg⟩, hb4⟩
          obtain ⟨bR4, hW4⟩ := Hend.out w4 hb4
          have Hsg := hide hsg
          clear hsg hb4 b1 bR1 bR b0 z0 z1 z2 z3
          have d0 := bR4.cell 0
          have d1 := bR4.cell 1
          have df := bR4.frozen
          simp at d0 d1
          go_wp2
          have bR5 := bR4.set2 (.int .i64 s) (.int .i64 g)
          have e0 := bR5.cell 0
          have e1 := bR5.cell 1
          simp at e0 e1
          refine bodyPost_ret (v := .tuple #[.agg #[.int .i64 s, .int .i64 g], .int .i64 xx]) (by simp [results, Try.results70, go_sem, e0, e1]) rfl ⟨by rw [Hx.out, Hy.out.1, Hy.out.2]; exact ⟨s, g, rfl, Hsg.out⟩, below_set2 hW4 (by omega) _ _⟩
        by_cases k4 : h.kind = 4
        · have hkd := k4
          have f1 : (h.kind == 1) = false := by simp [k4]
          have f2 : (h.kind == 2) = false := by simp [k4]
          have f3 : (h.kind == 3) = false := by simp [k4]
          have f4 : (h.kind == 4) = true := by simp [k4]
          clear k1 k2 k3 k4
          have Hx : Hid (PlanM.err (.mk h sub) = filtErr h (fun j => (sub j).size) (fun j => (sub j).edges)) := hide (by rw [Hp.out]; unfold headErr; simp [hkd])
          have Hy : Hid (PlanM.size (.mk h sub) = (sub 0).size ∧ PlanM.edges (.mk h sub) = (sub 0).edges) := hide (by simp [PlanM.size, PlanM.edges, hkd])
          clear hkd
          generalize filtErr h (fun j => (sub j).size) (fun j => (sub j).edges) = xx at *
          go_wp2_with fail
          go_at_call 112
          refine HM4.out.mono ?_
          rintro e w4 ⟨⟨s, g, rfl, hsg⟩, hb4⟩
          obtain ⟨bR4, hW4⟩ := Hend.out w4 hb4
          have Hsg := hide hsg
          clear hsg hb4 b1 bR1 bR b0 z0 z1 z2 z3
          have d0 := bR4.cell 0
          have d1 := bR4.cell 1
          have df := bR4.frozen
          simp at d0 d1
          go_wp2
          have bR5 := bR4.set2 (.int .i64 s) (.int .i64 g)
          have e0 := bR5.cell 0
          have e1 := bR5.cell 1
          simp at e0 e1
          refine bodyPost_ret (v := .tuple #[.agg #[.int .i64 s, .int .i64 g], .int .i64 xx]) (by simp [results, Try.results70, go_sem, e0, e1]) rfl ⟨by rw [Hx.out, Hy.out.1, Hy.out.2]; exact ⟨s, g, rfl, Hsg.out⟩, below_set2 hW4 (by omega) _ _⟩
        · have f1 : (h.kind == 1) = false := by simp [k1]
          have f2 : (h.kind == 2) = false := by simp [k2]
          have f3 : (h.kind == 3) = false := by simp [k3]
          have f4 : (h.kind == 4) = false := by simp [k4]
          have Hx : Hid (PlanM.err (.mk h sub) = 7) := hide (by rw [Hp.out]; unfold headErr; simp [k1, k2, k3, k4])
          clear k1 k2 k3 k4
          have d0 := bR1.cell 0
          have d1 := bR1.cell 1
          have df := bR1.frozen
          simp at d0 d1
          go_wp2
          have bR5 := bR1.set2 (.int .i64 0) (.int .i64 0)
          have e0 := bR5.cell 0
          have e1 := bR5.cell 1
          simp at e0 e1
          refine bodyPost_ret (v := .tuple #[.agg #[.int .i64 0, .int .i64 0], .int .i64 7]) (by simp [results, Try.results70, go_sem, e0, e1]) rfl ⟨by rw [Hx.out]; exact measured_err (by decide), below_set2 HW.out (by omega) _ _⟩

end Go.Proofs.Ytjhkadffaephmaa
