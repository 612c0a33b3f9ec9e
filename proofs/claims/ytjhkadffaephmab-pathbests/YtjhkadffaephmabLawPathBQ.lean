/-
  signpostlaw.PathBests.
-/
import Derived.Test.YtjhkadffaephmabBundleFD
import Derived.Test.YtjhkadffaephmabBundleFB
import Derived.Test.YtjhkadffaephmabBundleFE
import Derived.Test.YtjhkadffaephmabBundleEH
namespace Go.Proofs.Ytjhkadffaephmab
set_option maxRecDepth 100000
open Go.RowKit

/-- What stands all through the walk. -/
structure PBG (w : World) (n : NetM) (a b X Y B M : RtM) (xb yb bb mb : Nat) (W : World) : Prop where
  below : Below w.heap.size w W
  net : Blk W w.heap.size n.cells 41
  one : Blk W (w.heap.size + 1) a.cells 71
  two : Blk W (w.heap.size + 1 + 1) b.cells 71
  xk : Blk W xb X.cells 71
  yk : Blk W yb Y.cells 71
  bk : Blk W bb B.cells 71
  nk : Blk W mb M.cells 71
  xi : X.In W.heap.size W
  yi : Y.In W.heap.size W
  bi : B.In W.heap.size W
  mi : M.In W.heap.size W
  lo : w.heap.size + 1 + 1 < bb ∧ xb < bb ∧ yb < bb ∧ bb < mb
  xo : 0 < X.l → X.b ≠ bb ∧ X.b ≠ mb
  yo : 0 < Y.l → Y.b ≠ bb ∧ Y.b ≠ mb
  bo : 0 < B.l → B.b ≠ bb ∧ B.b ≠ mb
  mo : 0 < M.l → M.b ≠ bb ∧ M.b ≠ mb
theorem PBG.keep {w : World} {n : NetM} {a b X Y B M : RtM} {xb yb bb mb : Nat} {W W' : World} (h : PBG w n a b X Y B M xb yb bb mb W) (hb : Below W.heap.size W W') : PBG w n a b X Y B M xb yb bb mb W' :=
  ⟨h.below.trans (hb.mono h.below.size), h.net.below hb h.net.lt, h.one.below hb h.one.lt, h.two.below hb h.two.lt, h.xk.below hb h.xk.lt, h.yk.below hb h.yk.lt, h.bk.below hb h.bk.lt, h.nk.below hb h.nk.lt, h.xi.grown hb, h.yi.grown hb, h.bi.grown hb, h.mi.grown hb, h.lo, h.xo, h.yo, h.bo, h.mo⟩
theorem PBG.putM {w : World} {n : NetM} {a b X Y B M : RtM} {xb yb bb mb : Nat} {W : World} (h : PBG w n a b X Y B M xb yb bb mb W) {r : RtM} (hr : r.In W.heap.size W) (ho : 0 < r.l → r.b ≠ bb ∧ r.b ≠ mb) :
    PBG w n a b X Y B r xb yb bb mb ((W.setCell ⟨mb, 0, none⟩ (.int .i64 r.w)).setCell ⟨mb, 1, none⟩ (.slice r.pa r.l r.q)) := by
  have lo := h.lo
  refine ⟨(h.below.setCell (p := ⟨mb, 0, none⟩) (by show w.heap.size ≤ mb; omega) _).setCell (p := ⟨mb, 1, none⟩) (by show w.heap.size ≤ mb; omega) _, (h.net.other (by omega) _ _).other (by omega) _ _, (h.one.other (by omega) _ _).other (by omega) _ _, (h.two.other (by omega) _ _).other (by omega) _ _, (h.xk.other (by omega) _ _).other (by omega) _ _, (h.yk.other (by omega) _ _).other (by omega) _ _, (h.bk.other (by omega) _ _).other (by omega) _ _, h.nk.set2 _ _, ?_, ?_, ?_, ?_, h.lo, h.xo, h.yo, h.bo, ho⟩
  · exact (h.xi.off (fun h0 => (h.xo h0).2) _ _).off (fun h0 => (h.xo h0).2) _ _
  · exact (h.yi.off (fun h0 => (h.yo h0).2) _ _).off (fun h0 => (h.yo h0).2) _ _
  · exact (h.bi.off (fun h0 => (h.bo h0).2) _ _).off (fun h0 => (h.bo h0).2) _ _
  · exact (hr.off (fun h0 => (ho h0).2) _ _).off (fun h0 => (ho h0).2) _ _
theorem PBG.putB {w : World} {n : NetM} {a b X Y B M : RtM} {xb yb bb mb : Nat} {W : World} (h : PBG w n a b X Y B M xb yb bb mb W) {r : RtM} (hr : r.In W.heap.size W) (ho : 0 < r.l → r.b ≠ bb ∧ r.b ≠ mb) :
    PBG w n a b X Y r M xb yb bb mb ((W.setCell ⟨bb, 0, none⟩ (.int .i64 r.w)).setCell ⟨bb, 1, none⟩ (.slice r.pa r.l r.q)) := by
  have lo := h.lo
  refine ⟨(h.below.setCell (p := ⟨bb, 0, none⟩) (by show w.heap.size ≤ bb; omega) _).setCell (p := ⟨bb, 1, none⟩) (by show w.heap.size ≤ bb; omega) _, (h.net.other (by omega) _ _).other (by omega) _ _, (h.one.other (by omega) _ _).other (by omega) _ _, (h.two.other (by omega) _ _).other (by omega) _ _, (h.xk.other (by omega) _ _).other (by omega) _ _, (h.yk.other (by omega) _ _).other (by omega) _ _, h.bk.set2 _ _, (h.nk.other (by omega) _ _).other (by omega) _ _, ?_, ?_, ?_, ?_, h.lo, h.xo, h.yo, ho, h.mo⟩
  · exact (h.xi.off (fun h0 => (h.xo h0).1) _ _).off (fun h0 => (h.xo h0).1) _ _
  · exact (h.yi.off (fun h0 => (h.yo h0).1) _ _).off (fun h0 => (h.yo h0).1) _ _
  · exact (hr.off (fun h0 => (ho h0).1) _ _).off (fun h0 => (ho h0).1) _ _
  · exact (h.mi.off (fun h0 => (h.mo h0).1) _ _).off (fun h0 => (h.mo h0).1) _ _
def pbE (vs : List Value) (x : Rt) (bb mb : Nat) (k : Nat) (v : Value) (W : World) : Prop :=
  match k with
  | 9 => ∃ r : RtM, v = r.val ∧ r.In W.heap.size W ∧ r.rt = x ∧ (0 < r.l → r.b ≠ bb ∧ r.b ≠ mb)
  | k => vs[k]? = some v
theorem pbE.keep {vs : List Value} {x : Rt} {bb mb : Nat} {W W' : World} (hb : Below W.heap.size W W') (k : Nat) (v : Value) (h : pbE vs x bb mb k v W) : pbE vs x bb mb k v W' := by
  unfold pbE at *
  split at h
  · obtain ⟨r, h1, h2, h3, h4⟩ := h
    exact ⟨r, h1, h2.grown hb, h3, h4⟩
  · exact h
theorem pbE_get {vs : List Value} {x : Rt} {bb mb k : Nat} {v t : Value} {W : World} (h : pbE vs x bb mb k v W) (hk : k ≠ 9) (hu : vs[k]? = some t) : v = t := by
  unfold pbE at h
  split at h
  · exact absurd rfl hk
  · rw [hu] at h
    injection h with h
    exact h.symm

set_option maxHeartbeats 16000000 in
theorem pathBests_any (n : NetM) (a b : RtM) (fr l0 : Int) (w : World) (h : n.In w.heap.size w) (ha : a.In w.heap.size w) (hqa : a.l ≤ a.q ∧ a.q ≤ maxLen) (hb : b.In w.heap.size w) (hqb : b.l ≤ b.q ∧ b.q ≤ maxLen) :
    Calls Try.prog 7 #[n.val, a.val, b.val, .int .i64 fr, .int .i64 l0] w fun e w' => e = .returned (.bool true) ∧ Below w.heap.size w w' := by
  have hlen := h.len
  unfold maxLen at hlen
  obtain ⟨W1, hW1⟩ : ∃ W1, W1 = ((w.alloc (.cells n.cells 41)).alloc (.cells a.cells 71)).alloc (.cells b.cells 71) := ⟨_, rfl⟩
  have hB1 : Below w.heap.size w W1 := by rw [hW1]; exact (((Below.refl _ w).alloc (Nat.le_refl _) _).alloc (by simp) _).alloc (by simp; omega) _
  have HG1 : Hid (FstG n a b w W1) := hide ⟨hB1, by rw [hW1]; exact ((Blk.new w _ _).alloc _).alloc _, by rw [hW1]; exact (Blk.new' (by simp)).alloc _, by rw [hW1]; exact Blk.new' (by simp)⟩
  have HBe := hide (pathBest_any n a b W1 (h.grown hB1) (ha.grown hB1) (hb.grown hB1))
  have HEx := hide (fun W (hbl : Below w.heap.size w W) => pathExtend_any n fr l0 a W (h.grown hbl) (ha.grown hbl))
  have HCk := hide (fun W (hbl : Below w.heap.size w W) => refNet_any n W (h.grown hbl))
  have HRa0 := hide (fun (hc : n.net.check = 0) W (hbl : Below w.heap.size w W) => refRight_any n a W (ha.grown hbl) hc hqa)
  have HRb0 := hide (fun (hc : n.net.check = 0) W (hbl : Below w.heap.size w W) => refRight_any n b W (hb.grown hbl) hc hqb)
  have HVa0 := hide (fun (hc : n.net.check = 0) W => refValid_any n a W (Net.good_of_check hc).law.good.lo (Net.good_of_check hc).law.good.hi)
  have HBo0 := hide (fun (hc : n.net.check = 0) (h1 : n.net.right a.rt = true) (h2 : n.net.right b.rt = true) W (hbl : Below w.heap.size w W) => bestOf_any n a b W (h.grown hbl) hc (ha.grown hbl) (hb.grown hbl) (Net.right_iff.1 h1) (Net.right_iff.1 h2))
  have HEo := hide (fun (en : Nat) (he : en < n.a.E.t.len) (hc : n.net.check = 0) (h1 : n.net.right a.rt = true) W (hbl : Below w.heap.size w W) => extendOf_any n fr en a W (h.grown hbl) hc (ha.grown hbl) (Net.right_iff.1 h1) (by have := Net.Right.short (Net.good_of_check hc) (Net.right_iff.1 h1); omega) he)
  have Hgd := hide (fun (e : n.net.check = 0) => Net.good_of_check e)
  have Hbst : Hid (n.net.bestAns a.rt b.rt = if n.net.check ≠ 0 then (n.net.check, Rt.zero) else if n.net.right a.rt = true ∧ n.net.right b.rt = true then (0, n.net.bestR a.rt b.rt) else (4, Rt.zero)) := hide rfl
  have Hext0 : Hid (n.net.extAns fr l0 a.rt = if n.net.check ≠ 0 then (n.net.check, Rt.zero) else if ¬ (0 ≤ l0 ∧ l0 < (n.ln : Int)) then (5, Rt.zero) else if fr ≠ n.F l0.toNat then (1, Rt.zero) else if n.net.right a.rt = true ∧ n.net.begR a.rt (n.T l0.toNat) = true then (0, n.net.ext (n.F l0.toNat) (n.E l0.toNat) a.rt) else (4, Rt.zero)) := hide rfl
  generalize n.net.bestAns a.rt b.rt = an at *
  generalize n.net.extAns fr l0 a.rt = en0 at *
  obtain ⟨v1, v2⟩ := an
  obtain ⟨e1, e2⟩ := en0
  have H := hide h
  have HIa := hide (fun W (hbl : Below w.heap.size w W) => ha.below hbl (Nat.le_refl _))
  have HIb := hide (fun W (hbl : Below w.heap.size w W) => hb.below hbl (Nat.le_refl _))
  have HIaG := hide (fun W (hbl : Below w.heap.size w W) => ha.grown hbl)
  have HIbG := hide (fun W (hbl : Below w.heap.size w W) => hb.grown hbl)
  have Hab := hide ha.blk
  have Hbb := hide hb.blk
  generalize n.net.check = ck at *
  have HW1 := hide hW1
  have x0 := HG1.out.net.cell 0
  have x1 := HG1.out.net.cell 1
  have x2 := HG1.out.net.cell 2
  have x3 := HG1.out.net.cell 3
  have x4 := HG1.out.net.cell 4
  simp [NetM.cells, Mat.val] at x0 x1 x2 x3 x4
  have y0 := HG1.out.one.cell 0
  have y1 := HG1.out.one.cell 1
  simp [RtM.cells] at y0 y1
  have z0 := HG1.out.two.cell 0
  have z1 := HG1.out.two.cell 1
  simp [RtM.cells] at z0 z1
  rw [hW1] at HBe x0 x1 x2 x3 x4 y0 y1 z0 z1
  simp only [NetM.val, NetM.cells, Mat.val, RtM.val, RtM.cells] at HW1 HBe HEx HCk HRa0 HRb0 HVa0 HBo0 HEo x0 x1 x2 x3 x4 y0 y1 z0 z1 ⊢
  clear hB1 hW1 h ha hb hqa hqb
  go_enter Try.func7, Try.ntmps7
  go_wp2_with fail
  go_at_call 32
  refine HBe.out.mono ?_
  rw [← HW1.out]
  rintro e w2 ⟨⟨X, rfl, hX⟩, hb2⟩
  have HG2 := hide (HG1.out.keep hb2)
  have HXm := hide hX
  clear hb2 hX HBe HW1 HG1 x0 x1 x2 x3 x4 y0 y1 z0 z1
  obtain ⟨xb, hxb⟩ : ∃ xb, xb = w2.heap.size := ⟨_, rfl⟩
  have hBx : Below w2.heap.size w2 (w2.alloc (.cells X.cells 71)) := (Below.refl _ w2).alloc (Nat.le_refl _) _
  have HG3 := hide (HG2.out.keep hBx)
  have Hxk : Hid (Blk (w2.alloc (.cells X.cells 71)) xb X.cells 71) := hide (by rw [hxb]; exact Blk.new w2 _ _)
  have HXm3 := hide (HXm.out.grown hBx)
  have HE1 := hide (HEx.out _ HG3.out.below)
  have x0 := HG3.out.net.cell 0
  have x1 := HG3.out.net.cell 1
  have x2 := HG3.out.net.cell 2
  have x3 := HG3.out.net.cell 3
  have x4 := HG3.out.net.cell 4
  simp [NetM.cells, Mat.val] at x0 x1 x2 x3 x4
  have y0 := HG3.out.one.cell 0
  have y1 := HG3.out.one.cell 1
  simp [RtM.cells] at y0 y1
  simp only [RtM.cells] at HG3 Hxk HXm3 HE1 x0 x1 x2 x3 x4 y0 y1
  clear hBx HG2 HEx HXm
  go_wp2_with fail
  rw [← hxb]
  clear hxb
  go_at_call 33
  refine HE1.out.mono ?_
  rintro e w4 ⟨⟨Y, rfl, hY⟩, hb4⟩
  have HG4 := hide (HG3.out.keep hb4)
  have Hxk4 := hide (Hxk.out.below hb4 Hxk.out.lt)
  have HXm4 := hide (HXm3.out.grown hb4)
  have HYm := hide hY
  clear hb4 hY HE1 HG3 Hxk HXm3 x0 x1 x2 x3 x4 y0 y1
  obtain ⟨yb, hyb⟩ : ∃ yb, yb = w4.heap.size := ⟨_, rfl⟩
  have hBy : Below w4.heap.size w4 (w4.alloc (.cells Y.cells 71)) := (Below.refl _ w4).alloc (Nat.le_refl _) _
  have HG5 := hide (HG4.out.keep hBy)
  have Hxk5 := hide (Hxk4.out.below hBy Hxk4.out.lt)
  have Hyk : Hid (Blk (w4.alloc (.cells Y.cells 71)) yb Y.cells 71) := hide (by rw [hyb]; exact Blk.new w4 _ _)
  have HXm5 := hide (HXm4.out.grown hBy)
  have HYm5 := hide (HYm.out.grown hBy)
  have HC1 := hide (HCk.out _ HG5.out.below)
  have x0 := HG5.out.net.cell 0
  have x1 := HG5.out.net.cell 1
  have x2 := HG5.out.net.cell 2
  have x3 := HG5.out.net.cell 3
  have x4 := HG5.out.net.cell 4
  simp [NetM.cells, Mat.val] at x0 x1 x2 x3 x4
  simp only [RtM.cells] at HG5 Hyk HXm5 HYm5 HC1 x0 x1 x2 x3 x4
  clear hBy HG4 HCk HXm4 HYm Hxk4
  go_wp2_with fail
  rw [← hyb]
  clear hyb
  go_at_call 34
  refine HC1.out.mono ?_
  rintro e w6 ⟨rfl, hb6⟩
  obtain ⟨bb, hbb⟩ : ∃ bb, bb = w6.heap.size := ⟨_, rfl⟩
  obtain ⟨W7, hW7⟩ : ∃ W7, W7 = (w6.alloc (.cells #[.int .i64 0, .slice none 0 0] 71)).alloc (.cells #[.int .i64 0, .slice none 0 0] 71) := ⟨_, rfl⟩
  have hB7 : Below w6.heap.size w6 W7 := by rw [hW7]; exact ((Below.refl _ w6).alloc (Nat.le_refl _) _).alloc (by simp) _
  have HG7 : Hid (PBG w n a b X Y zeroR zeroR xb yb bb (bb + 1) W7) := hide (by
    have g6 := HG5.out.keep hb6
    have g7 := g6.keep hB7
    have xk := (Hxk5.out.below hb6 Hxk5.out.lt)
    have yk := (Hyk.out.below hb6 Hyk.out.lt)
    have xm := HXm5.out.grown hb6
    have ym := HYm5.out.grown hb6
    refine ⟨g7.below, g7.net, g7.one, g7.two, xk.below hB7 xk.lt, yk.below hB7 yk.lt, by rw [hW7, hbb]; exact (Blk.new w6 _ _).alloc _, by rw [hW7, hbb]; exact Blk.new' (by simp), (xm.grown hB7).mem, (ym.grown hB7).mem, (made_zero (lo := 0)).mem, (made_zero (lo := 0)).mem, ⟨by rw [hbb]; exact g6.two.lt, by rw [hbb]; exact xk.lt, by rw [hbb]; exact yk.lt, by omega⟩, fun h0 => ?_, fun h0 => ?_, fun h0 => absurd h0 (Nat.lt_irrefl _), fun h0 => absurd h0 (Nat.lt_irrefl _)⟩
    · have := xm.mem.blk h0; omega
    · have := ym.mem.blk h0; omega)
  have HX0 : Hid (X.rt = v2) := hide HXm5.out.same
  have HY0 : Hid (Y.rt = e2) := hide HYm5.out.same
  clear hb6 HC1 x0 x1 x2 x3 x4 HG5 Hxk5 Hyk HXm5 HYm5 hB7
  obtain ⟨mb, hmb⟩ : ∃ mb, mb = bb + 1 := ⟨_, rfl⟩
  rw [← hmb] at HG7
  by_cases hck : ck = 0
  rotate_left
  · have hck' : (ck == 0) = false := by simp [hck]
    have hck2 : (ck != 0) = true := by simp [hck]
    have hb1 : (v1, v2) = (ck, Rt.zero) := by rw [Hbst.out, if_pos hck]
    have he1 : (e1, e2) = (ck, Rt.zero) := by rw [Hext0.out, if_pos hck]
    obtain ⟨rfl, rfl⟩ := Prod.mk.inj hb1
    obtain ⟨rfl, rfl⟩ := Prod.mk.inj he1
    have HX := HX0
    have HY := HY0
    have Hck := hide hck
    clear hb1 he1 Hbst Hext0 HX0 HY0 hck HRa0 HRb0 HVa0 HBo0 HEo
    have HBo : True := trivial
    have HEo : True := trivial
    have HRa : True := trivial
    have HRb : True := trivial
    have HVa : True := trivial
    go_wp2_with fail
    rw [← hbb, ← hmb, ← hW7]
    clear hbb hmb hW7
    clear HBo HEo HRa HRb HVa
    go_at_call 39
    refine (pathBegun_any _).mono ?_
    rintro e wA ⟨rfl, hbA⟩
    have HGA := hide (HG7.out.keep hbA)
    have HI1 := hide (routeIs_yes X zeroR e1 wA HGA.out.xi HGA.out.bi (fun h => absurd h Hck.out) (fun _ => HX.out))
    have p0 := HGA.out.xk.cell 0
    have p1 := HGA.out.xk.cell 1
    simp [RtM.cells] at p0 p1
    have q0 := HGA.out.bk.cell 0
    have q1 := HGA.out.bk.cell 1
    simp [RtM.cells] at q0 q1
    simp only [RtM.val, RtM.cells] at HI1
    simp only [zeroR] at HI1 q0 q1
    clear hbA HG7
    go_wp2_with fail
    go_at_call 40
    refine HI1.out.mono ?_
    rintro e wB ⟨rfl, hbB⟩
    have HGB := hide (HGA.out.keep hbB)
    have HI2 := hide (routeIs_yes Y zeroR e1 wB HGB.out.yi HGB.out.mi (fun h => absurd h Hck.out) (fun _ => HY.out))
    clear p0 p1 q0 q1 HI1
    have p0 := HGB.out.yk.cell 0
    have p1 := HGB.out.yk.cell 1
    simp [RtM.cells] at p0 p1
    have q0 := HGB.out.nk.cell 0
    have q1 := HGB.out.nk.cell 1
    simp [RtM.cells] at q0 q1
    simp only [RtM.val, RtM.cells] at HI2
    simp only [zeroR] at HI2 q0 q1
    clear hbB HGA
    go_wp2_with fail
    go_at_call 40
    refine HI2.out.mono ?_
    rintro e wC ⟨rfl, hbC⟩
    have HBf := hide (HGB.out.keep hbC).below
    clear hbC HGB HI2 p0 p1 q0 q1
    go_wp2
    go_ret
    exact ⟨rfl, HBf.out⟩
  subst hck
  have HRa := hide (HRa0.out (by trivial))
  have HRb := hide (HRb0.out (by trivial))
  have HVa := hide (HVa0.out (by trivial))
  have HBo := hide (HBo0.out (by trivial))
  have Hext : Hid ((e1, e2) = if ¬ (0 ≤ l0 ∧ l0 < (n.ln : Int)) then (5, Rt.zero) else if fr ≠ n.F l0.toNat then (1, Rt.zero) else if n.net.right a.rt = true ∧ n.net.begR a.rt (n.T l0.toNat) = true then (0, n.net.ext (n.F l0.toNat) (n.E l0.toNat) a.rt) else (4, Rt.zero)) := hide (by rw [Hext0.out, if_neg (by simp)])
  have Hbst2 : Hid ((v1, v2) = if n.net.right a.rt = true ∧ n.net.right b.rt = true then (0, n.net.bestR a.rt b.rt) else (4, Rt.zero)) := hide (by rw [Hbst.out, if_neg (by simp)])
  have HY := HY0
  have HR1 := hide (HRa.out W7 HG7.out.below)
  clear HRa0 HRb0 HVa0 HBo0 Hext0 Hbst HY0
  have x0 := HG7.out.net.cell 0
  have x1 := HG7.out.net.cell 1
  have x2 := HG7.out.net.cell 2
  have x3 := HG7.out.net.cell 3
  have x4 := HG7.out.net.cell 4
  simp [NetM.cells, Mat.val] at x0 x1 x2 x3 x4
  have y0 := HG7.out.one.cell 0
  have y1 := HG7.out.one.cell 1
  simp [RtM.cells] at y0 y1
  rw [hW7] at HR1 x0 x1 x2 x3 x4 y0 y1
  go_wp2_with fail
  go_at_call 35
  refine HR1.out.mono ?_
  rw [← hW7, ← hbb, ← hmb]
  clear hbb hmb hW7
  rintro e w8 ⟨rfl, hb8⟩
  have HG8 := hide (HG7.out.keep hb8)
  clear hb8 HG7 HR1 x0 x1 x2 x3 x4 y0 y1
  cases hra : n.net.right a.rt with
  | false =>
    have hb1 : (v1, v2) = (4, Rt.zero) := by rw [Hbst2.out, if_neg (by rw [hra]; simp)]
    obtain ⟨rfl, rfl⟩ := Prod.mk.inj hb1
    have HX := HX0
    clear Hbst2 hb1 HX0
    by_cases hlr : 0 ≤ l0 ∧ l0 < (n.ln : Int)
    rotate_left
    · have he : (e1, e2) = (5, Rt.zero) := by rw [Hext.out, if_pos hlr]
      obtain ⟨rfl, rfl⟩ := Prod.mk.inj he
      clear Hext
      by_cases h0 : l0 < 0
      · clear hlr he
        clear HBo HEo HRa HRb HVa
        go_wp2_with fail
        go_at_call 39
        refine (pathBegun_any _).mono ?_
        rintro e wA ⟨rfl, hbA⟩
        have HGA := hide (HG8.out.keep hbA)
        have HI1 := hide (routeIs_yes X zeroR 4 wA HGA.out.xi HGA.out.bi (fun h => absurd h (by decide)) (fun _ => HX.out))
        have p0 := HGA.out.xk.cell 0
        have p1 := HGA.out.xk.cell 1
        simp [RtM.cells] at p0 p1
        have q0 := HGA.out.bk.cell 0
        have q1 := HGA.out.bk.cell 1
        simp [RtM.cells] at q0 q1
        simp only [RtM.val, RtM.cells] at HI1
        simp only [zeroR] at HI1 q0 q1
        clear hbA HG8
        go_wp2_with fail
        go_at_call 40
        refine HI1.out.mono ?_
        rintro e wB ⟨rfl, hbB⟩
        have HGB := hide (HGA.out.keep hbB)
        have HI2 := hide (routeIs_yes Y zeroR 5 wB HGB.out.yi HGB.out.mi (fun h => absurd h (by decide)) (fun _ => HY.out))
        clear p0 p1 q0 q1 HI1
        have p0 := HGB.out.yk.cell 0
        have p1 := HGB.out.yk.cell 1
        simp [RtM.cells] at p0 p1
        have q0 := HGB.out.nk.cell 0
        have q1 := HGB.out.nk.cell 1
        simp [RtM.cells] at q0 q1
        simp only [RtM.val, RtM.cells] at HI2
        simp only [zeroR] at HI2 q0 q1
        clear hbB HGA
        go_wp2_with fail
        go_at_call 40
        refine HI2.out.mono ?_
        rintro e wC ⟨rfl, hbC⟩
        have HBf := hide (HGB.out.keep hbC).below
        clear hbC HGB HI2 p0 p1 q0 q1
        go_wp2
        go_ret
        exact ⟨rfl, HBf.out⟩
      · have h1 : (n.ln : Int) ≤ l0 := by omega
        clear hlr he
        have x0 := HG8.out.net.cell 0
        have x1 := HG8.out.net.cell 1
        have x2 := HG8.out.net.cell 2
        have x3 := HG8.out.net.cell 3
        have x4 := HG8.out.net.cell 4
        simp [NetM.cells, Mat.val] at x0 x1 x2 x3 x4
        clear x0 x1 x2 x3 HBo HEo HRa HRb HVa
        go_wp2_with fail
        go_at_call 39
        refine (pathBegun_any _).mono ?_
        rintro e wA ⟨rfl, hbA⟩
        have HGA := hide (HG8.out.keep hbA)
        have HI1 := hide (routeIs_yes X zeroR 4 wA HGA.out.xi HGA.out.bi (fun h => absurd h (by decide)) (fun _ => HX.out))
        have p0 := HGA.out.xk.cell 0
        have p1 := HGA.out.xk.cell 1
        simp [RtM.cells] at p0 p1
        have q0 := HGA.out.bk.cell 0
        have q1 := HGA.out.bk.cell 1
        simp [RtM.cells] at q0 q1
        simp only [RtM.val, RtM.cells] at HI1
        simp only [zeroR] at HI1 q0 q1
        clear hbA HG8
        go_wp2_with fail
        go_at_call 40
        refine HI1.out.mono ?_
        rintro e wB ⟨rfl, hbB⟩
        have HGB := hide (HGA.out.keep hbB)
        have HI2 := hide (routeIs_yes Y zeroR 5 wB HGB.out.yi HGB.out.mi (fun h => absurd h (by decide)) (fun _ => HY.out))
        clear p0 p1 q0 q1 HI1
        have p0 := HGB.out.yk.cell 0
        have p1 := HGB.out.yk.cell 1
        simp [RtM.cells] at p0 p1
        have q0 := HGB.out.nk.cell 0
        have q1 := HGB.out.nk.cell 1
        simp [RtM.cells] at q0 q1
        simp only [RtM.val, RtM.cells] at HI2
        simp only [zeroR] at HI2 q0 q1
        clear hbB HGA
        go_wp2_with fail
        go_at_call 40
        refine HI2.out.mono ?_
        rintro e wC ⟨rfl, hbC⟩
        have HBf := hide (HGB.out.keep hbC).below
        clear hbC HGB HI2 p0 p1 q0 q1
        go_wp2
        go_ret
        exact ⟨rfl, HBf.out⟩
    obtain ⟨l, rfl⟩ : ∃ l : Nat, l0 = l := ⟨l0.toNat, by omega⟩
    have hll : l < n.ln := by omega
    have hli : (l : Int) < (n.ln : Int) := by omega
    have hlneg : ¬ ((l : Int) < 0) := by omega
    have hlge : ¬ ((n.ln : Int) ≤ (l : Int)) := by omega
    have hd1 : decide ((l : Int) < 0) = false := decide_eq_false (by omega)
    have hd2 : decide (n.ln ≤ l) = false := decide_eq_false (by omega)
    have Hd1 := hide hd1
    have Hd2 := hide hd2
    clear hd1 hd2
    have Hli := hide hli
    have Hla : Hid (n.la = some ⟨n.lb, n.lo, none⟩) := hide (H.out.la (by omega))
    have Hgl := hide ((Hgd.out (by trivial)).link l hll)
    obtain ⟨en, hen⟩ : ∃ en : Nat, n.E l = en := ⟨(n.E l).toNat, by have := Hgl.out.2.2.2.2.1; have : n.net.E l = n.E l := rfl; omega⟩
    have hel : en < n.a.E.t.len := by
      have h5 := Hgl.out.2.2.2.2.2
      have q1 : n.net.E l = n.E l := rfl
      have q2 : n.net.a.E.len = n.a.E.t.len := rfl
      omega
    have HFc := hide (fun W (hb : Below w.heap.size w W) => (H.out.below hb (Nat.le_refl _)).f l hll)
    have HTc := hide (fun W (hb : Below w.heap.size w W) => (H.out.below hb (Nat.le_refl _)).t l hll)
    have HEc := hide (fun W (hb : Below w.heap.size w W) => (H.out.below hb (Nat.le_refl _)).e l hll)
    rw [hen] at HEc
    have Hext2 : Hid ((e1, e2) = if fr ≠ n.F l then (1, Rt.zero) else if n.net.right a.rt = true ∧ n.net.begR a.rt (n.T l) = true then (0, n.net.ext (n.F l) en a.rt) else (4, Rt.zero)) := hide (by rw [Hext.out, if_neg (by simp [hlr]), Int.toNat_natCast, hen])
    have x0 := HG8.out.net.cell 0
    have x1 := HG8.out.net.cell 1
    have x2 := HG8.out.net.cell 2
    have x3 := HG8.out.net.cell 3
    have x4 := HG8.out.net.cell 4
    simp [NetM.cells, Mat.val] at x0 x1 x2 x3 x4
    rw [Hla.out] at x4
    have cF := HFc.out _ HG8.out.below

    clear Hext hlr hen Hgl
    by_cases hfr : n.F l = fr
    rotate_left
    · have hfr' : (n.F l != fr) = true := by simp [hfr]
      have he : (e1, e2) = (1, Rt.zero) := by rw [Hext2.out, if_pos (Ne.symm hfr)]
      obtain ⟨rfl, rfl⟩ := Prod.mk.inj he
      clear Hext2 hfr he
      clear HBo HEo HRa HRb HVa
      go_wp2_with fail
      clear x0 x1 x2 x3 x4 cF
      go_at_call 39
      refine (pathBegun_any _).mono ?_
      rintro e wA ⟨rfl, hbA⟩
      have HGA := hide (HG8.out.keep hbA)
      have HI1 := hide (routeIs_yes X zeroR 4 wA HGA.out.xi HGA.out.bi (fun h => absurd h (by decide)) (fun _ => HX.out))
      have p0 := HGA.out.xk.cell 0
      have p1 := HGA.out.xk.cell 1
      simp [RtM.cells] at p0 p1
      have q0 := HGA.out.bk.cell 0
      have q1 := HGA.out.bk.cell 1
      simp [RtM.cells] at q0 q1
      simp only [RtM.val, RtM.cells] at HI1
      simp only [zeroR] at HI1 q0 q1
      clear hbA HG8
      go_wp2_with fail
      go_at_call 40
      refine HI1.out.mono ?_
      rintro e wB ⟨rfl, hbB⟩
      have HGB := hide (HGA.out.keep hbB)
      have HI2 := hide (routeIs_yes Y zeroR 1 wB HGB.out.yi HGB.out.mi (fun h => absurd h (by decide)) (fun _ => HY.out))
      clear p0 p1 q0 q1 HI1
      have p0 := HGB.out.yk.cell 0
      have p1 := HGB.out.yk.cell 1
      simp [RtM.cells] at p0 p1
      have q0 := HGB.out.nk.cell 0
      have q1 := HGB.out.nk.cell 1
      simp [RtM.cells] at q0 q1
      simp only [RtM.val, RtM.cells] at HI2
      simp only [zeroR] at HI2 q0 q1
      clear hbB HGA
      go_wp2_with fail
      go_at_call 40
      refine HI2.out.mono ?_
      rintro e wC ⟨rfl, hbC⟩
      have HBf := hide (HGB.out.keep hbC).below
      clear hbC HGB HI2 p0 p1 q0 q1
      go_wp2
      go_ret
      exact ⟨rfl, HBf.out⟩
    have hfr' : (n.F l != fr) = false := by simp [hfr]
    have Hext3 : Hid ((e1, e2) = if n.net.right a.rt = true ∧ n.net.begR a.rt (n.T l) = true then (0, n.net.ext fr en a.rt) else (4, Rt.zero)) := hide (by rw [Hext2.out, if_neg (by simp [hfr]), hfr])
    clear Hext2 hfr
    have he : (e1, e2) = (4, Rt.zero) := by rw [Hext3.out, if_neg (by rw [hra]; simp)]
    obtain ⟨rfl, rfl⟩ := Prod.mk.inj he
    have HRa := HRa
    rw [hra] at HRa
    clear Hext3 he
    go_wp2_with fail
    try simp only [Hd1.out, Hd2.out, Bool.false_or]
    clear x0 x1 x2 x3 x4 cF hfr' hlneg hlge hli hlen hll
    refine wp_region_only (fun W => PBG w n a b X Y zeroR zeroR xb yb bb mb W) (valsE [n.val, a.val, .bool false, .bool true, .bool true, undef, undef, undef, undef, undef, undef, undef, undef, undef, undef, undef, undef, undef, undef, undef, undef, .bool true, .bool true]) (by kernel_rfl) (by kernel_rfl) (by kernel_rfl) (HG8.out.keep (below_drewN (Below.refl _ _) 1)) ⟨?_, ?_, ?_, ?_, ?_, ?_, ?_, ?_, ?_, ?_, ?_, ?_, ?_, ?_, ?_, ?_, ?_, ?_, ?_, ?_, ?_, ?_, ?_, trivial⟩ ?_
    rotate_right
    · intro t W hG hE
      have e22 := valsE_get (hE 22 (by decide)) rfl
      have HG' := hide hG
      clear hE hG
      simp only [fill, Act.put, List.setIfInBounds_toArray, List.set_cons_zero, List.set_cons_succ, e22]
      clear e22
      clear HG8
      clear HBo HEo HRa HRb HVa
      go_wp2_with fail
      go_at_call 39
      refine (pathBegun_any _).mono ?_
      rintro e wA ⟨rfl, hbA⟩
      have HGA := hide (HG'.out.keep hbA)
      have HI1 := hide (routeIs_yes X zeroR 4 wA HGA.out.xi HGA.out.bi (fun h => absurd h (by decide)) (fun _ => HX.out))
      have p0 := HGA.out.xk.cell 0
      have p1 := HGA.out.xk.cell 1
      simp [RtM.cells] at p0 p1
      have q0 := HGA.out.bk.cell 0
      have q1 := HGA.out.bk.cell 1
      simp [RtM.cells] at q0 q1
      simp only [RtM.val, RtM.cells] at HI1
      simp only [zeroR] at HI1 q0 q1
      clear hbA HG'
      go_wp2_with fail
      go_at_call 40
      refine HI1.out.mono ?_
      rintro e wB ⟨rfl, hbB⟩
      have HGB := hide (HGA.out.keep hbB)
      have HI2 := hide (routeIs_yes Y zeroR 4 wB HGB.out.yi HGB.out.mi (fun h => absurd h (by decide)) (fun _ => HY.out))
      clear p0 p1 q0 q1 HI1
      have p0 := HGB.out.yk.cell 0
      have p1 := HGB.out.yk.cell 1
      simp [RtM.cells] at p0 p1
      have q0 := HGB.out.nk.cell 0
      have q1 := HGB.out.nk.cell 1
      simp [RtM.cells] at q0 q1
      simp only [RtM.val, RtM.cells] at HI2
      simp only [zeroR] at HI2 q0 q1
      clear hbB HGA
      go_wp2_with fail
      go_at_call 40
      refine HI2.out.mono ?_
      rintro e wC ⟨rfl, hbC⟩
      have HBf := hide (HGB.out.keep hbC).below
      clear hbC HGB HI2 p0 p1 q0 q1
      go_wp2
      go_ret
      exact ⟨rfl, HBf.out⟩
    all_goals intro t W hG hp K hK
    all_goals simp only [fill, Act.put, List.setIfInBounds_toArray, List.set_cons_zero, List.set_cons_succ] at hK ⊢
    · have bN := hG.net
      have x0 := bN.cell 0
      have x1 := bN.cell 1
      have x2 := bN.cell 2
      have x3 := bN.cell 3
      have x4 := bN.cell 4
      simp [NetM.cells, Mat.val] at x0 x1 x2 x3 x4
      rw [if_pos (by rfl)]
      go_simp
      exact hK _ W hG rfl (fun _ _ _ h => h)
    · have y0 := hG.one.cell 0
      have y1 := hG.one.cell 1
      simp [RtM.cells] at y0 y1
      rw [if_pos (by rfl)]
      go_simp
      exact hK _ W hG rfl (fun _ _ _ h => h)
    · have e0 := valsE_get (hp 0 (by decide)) rfl
      have e1 := valsE_get (hp 1 (by decide)) rfl
      simp only [NetM.val, NetM.cells, Mat.val] at e0
      simp only [RtM.val, RtM.cells] at e1
      simp only [e0, e1] at hK ⊢
      rw [if_pos (by rfl)]
      go_simp
      go_at_call 35
      refine (HRa.out W hG.below).mono ?_
      rintro e W' ⟨rfl, hb⟩
      go_simp
      exact hK _ W' (hG.keep hb) rfl (fun _ _ _ h => h)
    · have e2 := valsE_get (hp 2 (by decide)) rfl
      simp only [e2] at hK ⊢
      rw [if_pos (by rfl)]
      go_simp
      exact hK _ W hG rfl (fun _ _ _ h => h)
    · have e3 := valsE_get (hp 3 (by decide)) rfl
      simp only [e3] at hK ⊢
      rw [if_pos (by rfl)]
      go_simp
      exact hK _ W hG rfl (fun _ _ _ h => h)
    · have e4 := valsE_get (hp 4 (by decide)) rfl
      simp only [e4] at hK ⊢
      rw [if_neg (by intro hh; exact absurd (show false = true from hh) (by decide))]
      exact hK undef W hG rfl (fun _ _ _ h => h)
    · have e4 := valsE_get (hp 4 (by decide)) rfl
      simp only [e4] at hK ⊢
      rw [if_neg (by intro hh; exact absurd (show false = true from hh) (by decide))]
      exact hK undef W hG rfl (fun _ _ _ h => h)
    · have e4 := valsE_get (hp 4 (by decide)) rfl
      simp only [e4] at hK ⊢
      rw [if_neg (by intro hh; exact absurd (show false = true from hh) (by decide))]
      exact hK undef W hG rfl (fun _ _ _ h => h)
    · have e4 := valsE_get (hp 4 (by decide)) rfl
      simp only [e4] at hK ⊢
      rw [if_neg (by intro hh; exact absurd (show false = true from hh) (by decide))]
      exact hK undef W hG rfl (fun _ _ _ h => h)
    · have e8 := valsE_get (hp 8 (by decide)) rfl
      simp only [e8] at hK ⊢
      rw [if_neg (by intro hh; exact absurd (show false = true from hh) (by decide))]
      exact hK undef W hG rfl (fun _ _ _ h => h)
    · have e8 := valsE_get (hp 8 (by decide)) rfl
      simp only [e8] at hK ⊢
      rw [if_neg (by intro hh; exact absurd (show false = true from hh) (by decide))]
      exact hK undef W hG rfl (fun _ _ _ h => h)
    · have e8 := valsE_get (hp 8 (by decide)) rfl
      simp only [e8] at hK ⊢
      rw [if_neg (by intro hh; exact absurd (show false = true from hh) (by decide))]
      exact hK undef W hG rfl (fun _ _ _ h => h)
    · have e8 := valsE_get (hp 8 (by decide)) rfl
      simp only [e8] at hK ⊢
      rw [if_neg (by intro hh; exact absurd (show false = true from hh) (by decide))]
      exact hK undef W hG rfl (fun _ _ _ h => h)
    · have e8 := valsE_get (hp 8 (by decide)) rfl
      simp only [e8] at hK ⊢
      rw [if_neg (by intro hh; exact absurd (show false = true from hh) (by decide))]
      exact hK undef W hG rfl (fun _ _ _ h => h)
    · have e8 := valsE_get (hp 8 (by decide)) rfl
      simp only [e8] at hK ⊢
      rw [if_neg (by intro hh; exact absurd (show false = true from hh) (by decide))]
      exact hK undef W hG rfl (fun _ _ _ h => h)
    · have e8 := valsE_get (hp 8 (by decide)) rfl
      simp only [e8] at hK ⊢
      rw [if_neg (by intro hh; exact absurd (show false = true from hh) (by decide))]
      exact hK undef W hG rfl (fun _ _ _ h => h)
    · have e8 := valsE_get (hp 8 (by decide)) rfl
      simp only [e8] at hK ⊢
      rw [if_neg (by intro hh; exact absurd (show false = true from hh) (by decide))]
      exact hK undef W hG rfl (fun _ _ _ h => h)
    · have e8 := valsE_get (hp 8 (by decide)) rfl
      simp only [e8] at hK ⊢
      rw [if_neg (by intro hh; exact absurd (show false = true from hh) (by decide))]
      exact hK undef W hG rfl (fun _ _ _ h => h)
    · have e8 := valsE_get (hp 8 (by decide)) rfl
      simp only [e8] at hK ⊢
      rw [if_neg (by intro hh; exact absurd (show false = true from hh) (by decide))]
      exact hK undef W hG rfl (fun _ _ _ h => h)
    · have e8 := valsE_get (hp 8 (by decide)) rfl
      simp only [e8] at hK ⊢
      rw [if_neg (by intro hh; exact absurd (show false = true from hh) (by decide))]
      exact hK undef W hG rfl (fun _ _ _ h => h)
    · have e4 := valsE_get (hp 4 (by decide)) rfl
      simp only [e4] at hK ⊢
      rw [if_neg (by intro hh; exact absurd (show false = true from hh) (by decide))]
      exact hK undef W hG rfl (fun _ _ _ h => h)
    · have e4 := valsE_get (hp 4 (by decide)) rfl
      have e20 := valsE_get (hp 20 (by decide)) rfl
      simp only [e4, e20] at hK ⊢
      rw [if_pos (by rfl)]
      go_simp
      exact hK _ W hG rfl (fun _ _ _ h => h)
    · have e21 := valsE_get (hp 21 (by decide)) rfl
      simp only [e21] at hK ⊢
      rw [if_pos (by rfl)]
      go_simp
      exact hK _ W hG rfl (fun _ _ _ h => h)
  | true =>
    have HR2 := hide (HRb.out w8 HG8.out.below)
    have x0 := HG8.out.net.cell 0
    have x1 := HG8.out.net.cell 1
    have x2 := HG8.out.net.cell 2
    have x3 := HG8.out.net.cell 3
    have x4 := HG8.out.net.cell 4
    simp [NetM.cells, Mat.val] at x0 x1 x2 x3 x4
    have z0 := HG8.out.two.cell 0
    have z1 := HG8.out.two.cell 1
    simp [RtM.cells] at z0 z1
    go_wp2_with fail
    go_at_call 35
    refine HR2.out.mono ?_
    rintro e w9 ⟨rfl, hb9⟩
    have HG9 := hide (HG8.out.keep hb9)
    clear hb9 HG8 HR2 x0 x1 x2 x3 x4 z0 z1
    cases hrb : n.net.right b.rt with
    | false =>
      have hb1 : (v1, v2) = (4, Rt.zero) := by rw [Hbst2.out, if_neg (by rw [hrb]; simp)]
      obtain ⟨rfl, rfl⟩ := Prod.mk.inj hb1
      have HX := HX0
      clear Hbst2 hb1 HX0
      by_cases hlr : 0 ≤ l0 ∧ l0 < (n.ln : Int)
      rotate_left
      · have he : (e1, e2) = (5, Rt.zero) := by rw [Hext.out, if_pos hlr]
        obtain ⟨rfl, rfl⟩ := Prod.mk.inj he
        clear Hext
        by_cases h0 : l0 < 0
        · clear hlr he
          clear HBo HEo HRa HRb HVa
          go_wp2_with fail
          go_at_call 39
          refine (pathBegun_any _).mono ?_
          rintro e wA ⟨rfl, hbA⟩
          have HGA := hide (HG9.out.keep hbA)
          have HI1 := hide (routeIs_yes X zeroR 4 wA HGA.out.xi HGA.out.bi (fun h => absurd h (by decide)) (fun _ => HX.out))
          have p0 := HGA.out.xk.cell 0
          have p1 := HGA.out.xk.cell 1
          simp [RtM.cells] at p0 p1
          have q0 := HGA.out.bk.cell 0
          have q1 := HGA.out.bk.cell 1
          simp [RtM.cells] at q0 q1
          simp only [RtM.val, RtM.cells] at HI1
          simp only [zeroR] at HI1 q0 q1
          clear hbA HG9
          go_wp2_with fail
          go_at_call 40
          refine HI1.out.mono ?_
          rintro e wB ⟨rfl, hbB⟩
          have HGB := hide (HGA.out.keep hbB)
          have HI2 := hide (routeIs_yes Y zeroR 5 wB HGB.out.yi HGB.out.mi (fun h => absurd h (by decide)) (fun _ => HY.out))
          clear p0 p1 q0 q1 HI1
          have p0 := HGB.out.yk.cell 0
          have p1 := HGB.out.yk.cell 1
          simp [RtM.cells] at p0 p1
          have q0 := HGB.out.nk.cell 0
          have q1 := HGB.out.nk.cell 1
          simp [RtM.cells] at q0 q1
          simp only [RtM.val, RtM.cells] at HI2
          simp only [zeroR] at HI2 q0 q1
          clear hbB HGA
          go_wp2_with fail
          go_at_call 40
          refine HI2.out.mono ?_
          rintro e wC ⟨rfl, hbC⟩
          have HBf := hide (HGB.out.keep hbC).below
          clear hbC HGB HI2 p0 p1 q0 q1
          go_wp2
          go_ret
          exact ⟨rfl, HBf.out⟩
        · have h1 : (n.ln : Int) ≤ l0 := by omega
          clear hlr he
          have x0 := HG9.out.net.cell 0
          have x1 := HG9.out.net.cell 1
          have x2 := HG9.out.net.cell 2
          have x3 := HG9.out.net.cell 3
          have x4 := HG9.out.net.cell 4
          simp [NetM.cells, Mat.val] at x0 x1 x2 x3 x4
          clear x0 x1 x2 x3 HBo HEo HRa HRb HVa
          go_wp2_with fail
          go_at_call 39
          refine (pathBegun_any _).mono ?_
          rintro e wA ⟨rfl, hbA⟩
          have HGA := hide (HG9.out.keep hbA)
          have HI1 := hide (routeIs_yes X zeroR 4 wA HGA.out.xi HGA.out.bi (fun h => absurd h (by decide)) (fun _ => HX.out))
          have p0 := HGA.out.xk.cell 0
          have p1 := HGA.out.xk.cell 1
          simp [RtM.cells] at p0 p1
          have q0 := HGA.out.bk.cell 0
          have q1 := HGA.out.bk.cell 1
          simp [RtM.cells] at q0 q1
          simp only [RtM.val, RtM.cells] at HI1
          simp only [zeroR] at HI1 q0 q1
          clear hbA HG9
          go_wp2_with fail
          go_at_call 40
          refine HI1.out.mono ?_
          rintro e wB ⟨rfl, hbB⟩
          have HGB := hide (HGA.out.keep hbB)
          have HI2 := hide (routeIs_yes Y zeroR 5 wB HGB.out.yi HGB.out.mi (fun h => absurd h (by decide)) (fun _ => HY.out))
          clear p0 p1 q0 q1 HI1
          have p0 := HGB.out.yk.cell 0
          have p1 := HGB.out.yk.cell 1
          simp [RtM.cells] at p0 p1
          have q0 := HGB.out.nk.cell 0
          have q1 := HGB.out.nk.cell 1
          simp [RtM.cells] at q0 q1
          simp only [RtM.val, RtM.cells] at HI2
          simp only [zeroR] at HI2 q0 q1
          clear hbB HGA
          go_wp2_with fail
          go_at_call 40
          refine HI2.out.mono ?_
          rintro e wC ⟨rfl, hbC⟩
          have HBf := hide (HGB.out.keep hbC).below
          clear hbC HGB HI2 p0 p1 q0 q1
          go_wp2
          go_ret
          exact ⟨rfl, HBf.out⟩
      obtain ⟨l, rfl⟩ : ∃ l : Nat, l0 = l := ⟨l0.toNat, by omega⟩
      have hll : l < n.ln := by omega
      have hli : (l : Int) < (n.ln : Int) := by omega
      have hlneg : ¬ ((l : Int) < 0) := by omega
      have hlge : ¬ ((n.ln : Int) ≤ (l : Int)) := by omega
      have hd1 : decide ((l : Int) < 0) = false := decide_eq_false (by omega)
      have hd2 : decide (n.ln ≤ l) = false := decide_eq_false (by omega)
      have Hd1 := hide hd1
      have Hd2 := hide hd2
      clear hd1 hd2
      have Hli := hide hli
      have Hla : Hid (n.la = some ⟨n.lb, n.lo, none⟩) := hide (H.out.la (by omega))
      have Hgl := hide ((Hgd.out (by trivial)).link l hll)
      obtain ⟨en, hen⟩ : ∃ en : Nat, n.E l = en := ⟨(n.E l).toNat, by have := Hgl.out.2.2.2.2.1; have : n.net.E l = n.E l := rfl; omega⟩
      have hel : en < n.a.E.t.len := by
        have h5 := Hgl.out.2.2.2.2.2
        have q1 : n.net.E l = n.E l := rfl
        have q2 : n.net.a.E.len = n.a.E.t.len := rfl
        omega
      have HFc := hide (fun W (hb : Below w.heap.size w W) => (H.out.below hb (Nat.le_refl _)).f l hll)
      have HTc := hide (fun W (hb : Below w.heap.size w W) => (H.out.below hb (Nat.le_refl _)).t l hll)
      have HEc := hide (fun W (hb : Below w.heap.size w W) => (H.out.below hb (Nat.le_refl _)).e l hll)
      rw [hen] at HEc
      have Hext2 : Hid ((e1, e2) = if fr ≠ n.F l then (1, Rt.zero) else if n.net.right a.rt = true ∧ n.net.begR a.rt (n.T l) = true then (0, n.net.ext (n.F l) en a.rt) else (4, Rt.zero)) := hide (by rw [Hext.out, if_neg (by simp [hlr]), Int.toNat_natCast, hen])
      have x0 := HG9.out.net.cell 0
      have x1 := HG9.out.net.cell 1
      have x2 := HG9.out.net.cell 2
      have x3 := HG9.out.net.cell 3
      have x4 := HG9.out.net.cell 4
      simp [NetM.cells, Mat.val] at x0 x1 x2 x3 x4
      rw [Hla.out] at x4
      have cF := HFc.out _ HG9.out.below

      clear Hext hlr hen Hgl
      by_cases hfr : n.F l = fr
      rotate_left
      · have hfr' : (n.F l != fr) = true := by simp [hfr]
        have he : (e1, e2) = (1, Rt.zero) := by rw [Hext2.out, if_pos (Ne.symm hfr)]
        obtain ⟨rfl, rfl⟩ := Prod.mk.inj he
        clear Hext2 hfr he
        clear HBo HEo HRa HRb HVa
        go_wp2_with fail
        clear x0 x1 x2 x3 x4 cF
        go_at_call 39
        refine (pathBegun_any _).mono ?_
        rintro e wA ⟨rfl, hbA⟩
        have HGA := hide (HG9.out.keep hbA)
        have HI1 := hide (routeIs_yes X zeroR 4 wA HGA.out.xi HGA.out.bi (fun h => absurd h (by decide)) (fun _ => HX.out))
        have p0 := HGA.out.xk.cell 0
        have p1 := HGA.out.xk.cell 1
        simp [RtM.cells] at p0 p1
        have q0 := HGA.out.bk.cell 0
        have q1 := HGA.out.bk.cell 1
        simp [RtM.cells] at q0 q1
        simp only [RtM.val, RtM.cells] at HI1
        simp only [zeroR] at HI1 q0 q1
        clear hbA HG9
        go_wp2_with fail
        go_at_call 40
        refine HI1.out.mono ?_
        rintro e wB ⟨rfl, hbB⟩
        have HGB := hide (HGA.out.keep hbB)
        have HI2 := hide (routeIs_yes Y zeroR 1 wB HGB.out.yi HGB.out.mi (fun h => absurd h (by decide)) (fun _ => HY.out))
        clear p0 p1 q0 q1 HI1
        have p0 := HGB.out.yk.cell 0
        have p1 := HGB.out.yk.cell 1
        simp [RtM.cells] at p0 p1
        have q0 := HGB.out.nk.cell 0
        have q1 := HGB.out.nk.cell 1
        simp [RtM.cells] at q0 q1
        simp only [RtM.val, RtM.cells] at HI2
        simp only [zeroR] at HI2 q0 q1
        clear hbB HGA
        go_wp2_with fail
        go_at_call 40
        refine HI2.out.mono ?_
        rintro e wC ⟨rfl, hbC⟩
        have HBf := hide (HGB.out.keep hbC).below
        clear hbC HGB HI2 p0 p1 q0 q1
        go_wp2
        go_ret
        exact ⟨rfl, HBf.out⟩
      have hfr' : (n.F l != fr) = false := by simp [hfr]
      have Hext3 : Hid ((e1, e2) = if n.net.right a.rt = true ∧ n.net.begR a.rt (n.T l) = true then (0, n.net.ext fr en a.rt) else (4, Rt.zero)) := hide (by rw [Hext2.out, if_neg (by simp [hfr]), hfr])
      clear Hext2 hfr
      rw [hra] at HRa
      cases hva : n.net.valid a.rt with
      | false =>
        have he : (e1, e2) = (0, n.net.ext fr en a.rt) := by rw [Hext3.out, if_pos ⟨hra, by unfold Net.begR; rw [hva]; rfl⟩]
        obtain ⟨rfl, rfl⟩ := Prod.mk.inj he
        rw [hva] at HVa
        have HEo := hide (fun W (hb : Below w.heap.size w W) => HEo.out en hel (by trivial) hra W hb)
        generalize n.net.ext fr en a.rt = ex at *
        clear Hext3 he
        go_wp2_with fail
        try simp only [Hd1.out, Hd2.out, Bool.false_or]
        clear x0 x1 x2 x3 x4 cF hfr' hlneg hlge hli hlen hll
        refine wp_region_only (fun W => PBG w n a b X Y zeroR zeroR xb yb bb mb W) (valsE [n.val, a.val, .bool true, .bool false, .bool false, n.val, a.val, .bool false, .bool false, undef, undef, undef, undef, undef, undef, undef, undef, undef, undef, undef, .bool false, .bool false, .bool false]) (by kernel_rfl) (by kernel_rfl) (by kernel_rfl) (HG9.out.keep (below_drewN (Below.refl _ _) 1)) ⟨?_, ?_, ?_, ?_, ?_, ?_, ?_, ?_, ?_, ?_, ?_, ?_, ?_, ?_, ?_, ?_, ?_, ?_, ?_, ?_, ?_, ?_, ?_, trivial⟩ ?_
        rotate_right
        · intro t W hG hE
          have e22 := valsE_get (hE 22 (by decide)) rfl
          have HG' := hide hG
          clear hE hG
          simp only [fill, Act.put, List.setIfInBounds_toArray, List.set_cons_zero, List.set_cons_succ, e22]
          clear e22
          clear HG9
          go_wp2_with fail
          refine wp_region_last 10 _ (fun W => PBG w n a b X Y zeroR zeroR xb yb bb mb W) (pbE [n.val, .int .i64 fr, .pointer (some ⟨w.heap.size, 4, none⟩), .slice (some ⟨n.lb, n.lo, none⟩) n.ln n.lc, .int .i64 (l : Int), .pointer (some ⟨n.lb, n.lo + l * 3, none⟩), .pointer (some ⟨n.lb, n.lo + l * 3 + 2, none⟩), .int .i64 (en : Int), a.val] ex bb mb) (fun _ W => ∃ M : RtM, PBG w n a b X Y zeroR M xb yb bb mb W ∧ M.rt = ex) (fun _ _ _ => True) (by kernel_rfl) (by kernel_rfl) (by kernel_rfl) (by kernel_rfl) (by kernel_rfl) rfl (HG'.out.keep (below_drewN (Below.refl _ _) 1)) ⟨?_, ?_, ?_, ?_, ?_, ?_, ?_, ?_, ?_, ?_, trivial⟩ ?_ trivial ?_
          rotate_right
          · intro t W hG _
            simp only [fill, Act.put, List.setIfInBounds_toArray, List.set_cons_zero, List.set_cons_succ]
            obtain ⟨M, hM, hMx⟩ := hG
            have HM := hide hM
            have HMx := hide hMx
            clear hM hMx HG'
            clear HBo HEo HRa HRb HVa
            go_wp2_with fail
            go_at_call 39
            refine (pathBegun_any _).mono ?_
            rintro e wA ⟨rfl, hbA⟩
            have HGA := hide (HM.out.keep hbA)
            have HI1 := hide (routeIs_yes X zeroR 4 wA HGA.out.xi HGA.out.bi (fun h => absurd h (by decide)) (fun _ => HX.out))
            have p0 := HGA.out.xk.cell 0
            have p1 := HGA.out.xk.cell 1
            simp [RtM.cells] at p0 p1
            have q0 := HGA.out.bk.cell 0
            have q1 := HGA.out.bk.cell 1
            simp [RtM.cells] at q0 q1
            simp only [RtM.val, RtM.cells] at HI1
            simp only [zeroR] at HI1 q0 q1
            clear hbA HM
            go_wp2_with fail
            go_at_call 40
            refine HI1.out.mono ?_
            rintro e wB ⟨rfl, hbB⟩
            have HGB := hide (HGA.out.keep hbB)
            have HI2 := hide (routeIs_yes Y M 0 wB HGB.out.yi HGB.out.mi (fun _ => HY.out.trans HMx.out.symm) (fun h => absurd rfl h))
            clear p0 p1 q0 q1 HI1
            have p0 := HGB.out.yk.cell 0
            have p1 := HGB.out.yk.cell 1
            simp [RtM.cells] at p0 p1
            have q0 := HGB.out.nk.cell 0
            have q1 := HGB.out.nk.cell 1
            simp [RtM.cells] at q0 q1
            simp only [RtM.val, RtM.cells] at HI2
          
            clear hbB HGA
            go_wp2_with fail
            go_at_call 40
            refine HI2.out.mono ?_
            rintro e wC ⟨rfl, hbC⟩
            have HBf := hide (HGB.out.keep hbC).below
            clear hbC HGB HI2 p0 p1 q0 q1
            go_wp2
            go_ret
            exact ⟨rfl, HBf.out⟩
          rotate_right
          · intro t W hG hE _ K hK
            simp only [fill, Act.put, List.setIfInBounds_toArray, List.set_cons_zero, List.set_cons_succ] at hK ⊢
            rw [if_pos (by rfl)]
            obtain ⟨r, e9, h1, h2, h3⟩ := hE 9 (by omega)
            have o0 := hG.nk.cell 0
            have o1 := hG.nk.cell 1
            have f0 := hG.nk.frozen 0
            have f1 := hG.nk.frozen 1
            simp [RtM.cells] at o0 o1
            have hN := hide (And.intro (hG.putM h1 h3) h2)
            clear hG hE h1 h2 h3
            simp only [e9, RtM.val, RtM.cells] at hK ⊢
            go_simp
            exact hK undef _ ⟨r, hN.out⟩
          all_goals intro t W hG hp _ K hK
          all_goals simp only [fill, Act.put, List.setIfInBounds_toArray, List.set_cons_zero, List.set_cons_succ] at hK ⊢
          · have bN := hG.net
            have x0 := bN.cell 0
            have x1 := bN.cell 1
            have x2 := bN.cell 2
            have x3 := bN.cell 3
            have x4 := bN.cell 4
            simp [NetM.cells, Mat.val] at x0 x1 x2 x3 x4
            rw [if_pos (by rfl)]
            go_simp
            exact hK _ W hG rfl (fun _ _ _ h => h)
          · rw [if_pos (by rfl)]
            go_simp
            exact hK _ W hG rfl (fun _ _ _ h => h)
          · rw [if_pos (by rfl)]
            go_simp
            exact hK _ W hG rfl (fun _ _ _ h => h)
          · have e2 := pbE_get (hp 2 (by decide)) (by decide) rfl
            have x4 := hG.net.cell 4
            simp [NetM.cells] at x4
            rw [Hla.out] at x4
            simp only [e2] at hK ⊢
            rw [if_pos (by rfl)]
            go_simp
            exact hK _ W hG rfl (fun _ _ _ h => h)
          · rw [if_pos (by rfl)]
            go_simp
            exact hK _ W hG rfl (fun _ _ _ h => h)
          · have e3 := pbE_get (hp 3 (by decide)) (by decide) rfl
            have e4 := pbE_get (hp 4 (by decide)) (by decide) rfl
            have hli := Hli.out
            simp only [e3, e4] at hK ⊢
            rw [if_pos (by rfl)]
            go_simp
            exact hK _ W hG rfl (fun _ _ _ h => h)
          · have e5 := pbE_get (hp 5 (by decide)) (by decide) rfl
            simp only [e5] at hK ⊢
            rw [if_pos (by rfl)]
            go_simp
            exact hK _ W hG rfl (fun _ _ _ h => h)
          · have e6 := pbE_get (hp 6 (by decide)) (by decide) rfl
            have c2 := HEc.out W hG.below
            simp only [e6] at hK ⊢
            rw [if_pos (by rfl)]
            go_simp
            exact hK _ W hG rfl (fun _ _ _ h => h)
          · have y0 := hG.one.cell 0
            have y1 := hG.one.cell 1
            simp [RtM.cells] at y0 y1
            rw [if_pos (by rfl)]
            go_simp
            exact hK _ W hG rfl (fun _ _ _ h => h)
          · have e0 := pbE_get (hp 0 (by decide)) (by decide) rfl
            have e1 := pbE_get (hp 1 (by decide)) (by decide) rfl
            have e7 := pbE_get (hp 7 (by decide)) (by decide) rfl
            have e8 := pbE_get (hp 8 (by decide)) (by decide) rfl
            simp only [NetM.val, NetM.cells, Mat.val] at e0
            simp only [RtM.val, RtM.cells] at e8
            simp only [e0, e1, e7, e8] at hK ⊢
            rw [if_pos (by rfl)]
            go_simp
            go_at_call 38
            refine (HEo.out W hG.below).mono ?_
            rintro e W' ⟨⟨r', rfl, hm⟩, hb⟩
            go_simp
            have hlt1 := hG.bk.lt
            have hlt2 := hG.nk.lt
            exact hK _ W' (hG.keep hb) ⟨r', rfl, hm.mem, hm.same, fun h0 => by have := hm.own h0; omega⟩ (fun q u _ => pbE.keep hb q u)
        all_goals intro t W hG hp K hK
        all_goals simp only [fill, Act.put, List.setIfInBounds_toArray, List.set_cons_zero, List.set_cons_succ] at hK ⊢
        · have bN := hG.net
          have x0 := bN.cell 0
          have x1 := bN.cell 1
          have x2 := bN.cell 2
          have x3 := bN.cell 3
          have x4 := bN.cell 4
          simp [NetM.cells, Mat.val] at x0 x1 x2 x3 x4
          rw [if_pos (by rfl)]
          go_simp
          exact hK _ W hG rfl (fun _ _ _ h => h)
        · have y0 := hG.one.cell 0
          have y1 := hG.one.cell 1
          simp [RtM.cells] at y0 y1
          rw [if_pos (by rfl)]
          go_simp
          exact hK _ W hG rfl (fun _ _ _ h => h)
        · have e0 := valsE_get (hp 0 (by decide)) rfl
          have e1 := valsE_get (hp 1 (by decide)) rfl
          simp only [NetM.val, NetM.cells, Mat.val] at e0
          simp only [RtM.val, RtM.cells] at e1
          simp only [e0, e1] at hK ⊢
          rw [if_pos (by rfl)]
          go_simp
          go_at_call 35
          refine (HRa.out W hG.below).mono ?_
          rintro e W' ⟨rfl, hb⟩
          go_simp
          exact hK _ W' (hG.keep hb) rfl (fun _ _ _ h => h)
        · have e2 := valsE_get (hp 2 (by decide)) rfl
          simp only [e2] at hK ⊢
          rw [if_pos (by rfl)]
          go_simp
          exact hK _ W hG rfl (fun _ _ _ h => h)
        · have e3 := valsE_get (hp 3 (by decide)) rfl
          simp only [e3] at hK ⊢
          rw [if_pos (by rfl)]
          go_simp
          exact hK _ W hG rfl (fun _ _ _ h => h)
        · have e4 := valsE_get (hp 4 (by decide)) rfl
          have bN := hG.net
          have x0 := bN.cell 0
          have x1 := bN.cell 1
          have x2 := bN.cell 2
          have x3 := bN.cell 3
          have x4 := bN.cell 4
          simp [NetM.cells, Mat.val] at x0 x1 x2 x3 x4
          simp only [e4] at hK ⊢
          rw [if_pos (by rfl)]
          go_simp
          exact hK _ W hG rfl (fun _ _ _ h => h)
        · have e4 := valsE_get (hp 4 (by decide)) rfl
          have y0 := hG.one.cell 0
          have y1 := hG.one.cell 1
          simp [RtM.cells] at y0 y1
          simp only [e4] at hK ⊢
          rw [if_pos (by rfl)]
          go_simp
          exact hK _ W hG rfl (fun _ _ _ h => h)
        · have e4 := valsE_get (hp 4 (by decide)) rfl
          have e5 := valsE_get (hp 5 (by decide)) rfl
          have e6 := valsE_get (hp 6 (by decide)) rfl
          simp only [NetM.val, NetM.cells, Mat.val] at e5
          simp only [RtM.val, RtM.cells] at e6
          simp only [e4, e5, e6] at hK ⊢
          rw [if_pos (by rfl)]
          go_simp
          go_at_call 37
          refine (HVa.out W).mono ?_
          rintro e W' ⟨rfl, hb⟩
          go_simp
          exact hK _ W' (hG.keep hb) rfl (fun _ _ _ h => h)
        · have e4 := valsE_get (hp 4 (by decide)) rfl
          have e7 := valsE_get (hp 7 (by decide)) rfl
          simp only [e4, e7] at hK ⊢
          rw [if_pos (by rfl)]
          go_simp
          exact hK _ W hG rfl (fun _ _ _ h => h)
        · have e8 := valsE_get (hp 8 (by decide)) rfl
          simp only [e8] at hK ⊢
          rw [if_neg (by intro hh; exact absurd (show false = true from hh) (by decide))]
          exact hK undef W hG rfl (fun _ _ _ h => h)
        · have e8 := valsE_get (hp 8 (by decide)) rfl
          simp only [e8] at hK ⊢
          rw [if_neg (by intro hh; exact absurd (show false = true from hh) (by decide))]
          exact hK undef W hG rfl (fun _ _ _ h => h)
        · have e8 := valsE_get (hp 8 (by decide)) rfl
          simp only [e8] at hK ⊢
          rw [if_neg (by intro hh; exact absurd (show false = true from hh) (by decide))]
          exact hK undef W hG rfl (fun _ _ _ h => h)
        · have e8 := valsE_get (hp 8 (by decide)) rfl
          simp only [e8] at hK ⊢
          rw [if_neg (by intro hh; exact absurd (show false = true from hh) (by decide))]
          exact hK undef W hG rfl (fun _ _ _ h => h)
        · have e8 := valsE_get (hp 8 (by decide)) rfl
          simp only [e8] at hK ⊢
          rw [if_neg (by intro hh; exact absurd (show false = true from hh) (by decide))]
          exact hK undef W hG rfl (fun _ _ _ h => h)
        · have e8 := valsE_get (hp 8 (by decide)) rfl
          simp only [e8] at hK ⊢
          rw [if_neg (by intro hh; exact absurd (show false = true from hh) (by decide))]
          exact hK undef W hG rfl (fun _ _ _ h => h)
        · have e8 := valsE_get (hp 8 (by decide)) rfl
          simp only [e8] at hK ⊢
          rw [if_neg (by intro hh; exact absurd (show false = true from hh) (by decide))]
          exact hK undef W hG rfl (fun _ _ _ h => h)
        · have e8 := valsE_get (hp 8 (by decide)) rfl
          simp only [e8] at hK ⊢
          rw [if_neg (by intro hh; exact absurd (show false = true from hh) (by decide))]
          exact hK undef W hG rfl (fun _ _ _ h => h)
        · have e8 := valsE_get (hp 8 (by decide)) rfl
          simp only [e8] at hK ⊢
          rw [if_neg (by intro hh; exact absurd (show false = true from hh) (by decide))]
          exact hK undef W hG rfl (fun _ _ _ h => h)
        · have e8 := valsE_get (hp 8 (by decide)) rfl
          simp only [e8] at hK ⊢
          rw [if_neg (by intro hh; exact absurd (show false = true from hh) (by decide))]
          exact hK undef W hG rfl (fun _ _ _ h => h)
        · have e8 := valsE_get (hp 8 (by decide)) rfl
          simp only [e8] at hK ⊢
          rw [if_neg (by intro hh; exact absurd (show false = true from hh) (by decide))]
          exact hK undef W hG rfl (fun _ _ _ h => h)
        · have e4 := valsE_get (hp 4 (by decide)) rfl
          have e8 := valsE_get (hp 8 (by decide)) rfl
          have e19 := valsE_get (hp 19 (by decide)) rfl
          simp only [e4, e8, e19] at hK ⊢
          rw [if_pos (by rfl)]
          go_simp
          exact hK _ W hG rfl (fun _ _ _ h => h)
        · have e4 := valsE_get (hp 4 (by decide)) rfl
          have e20 := valsE_get (hp 20 (by decide)) rfl
          simp only [e4, e20] at hK ⊢
          rw [if_pos (by rfl)]
          go_simp
          exact hK _ W hG rfl (fun _ _ _ h => h)
        · have e21 := valsE_get (hp 21 (by decide)) rfl
          simp only [e21] at hK ⊢
          rw [if_pos (by rfl)]
          go_simp
          exact hK _ W hG rfl (fun _ _ _ h => h)
      | true =>
        have hl0 := (Net.right_iff.1 hra).some hva
        have Hbe : Hid (n.net.begR a.rt (n.T l) = (a.f 0 == n.T l)) := hide (by rw [Net.begR_at (n.T l) (fun _ => hl0), hva]; rfl)
        have Hpa : Hid (a.pa = some ⟨a.b, a.o, none⟩) := hide ((HIa.out w (Below.refl _ _)).ints.addr hl0)
        have Hl0i : Hid (0 < a.l) := hide hl0
        have HAc : Hid (∀ W, Below w.heap.size w W → W.cell? ⟨a.b, a.o, none⟩ = some (.int .i64 (a.f 0))) := hide (fun W hb => by have := (HIa.out W hb).ints.cell 0 hl0; rwa [Nat.add_zero] at this)
        rw [hva] at HVa
        cases hne0 : (a.f 0 != n.T l) with
        | true =>
          have he : (e1, e2) = (4, Rt.zero) := by rw [Hext3.out, if_neg (by rw [Hbe.out]; intro hh; simp at hne0; exact hne0 (by simpa using hh.2))]
          obtain ⟨rfl, rfl⟩ := Prod.mk.inj he
          obtain ⟨ne, hnee⟩ : ∃ ne, ne = true := ⟨_, rfl⟩
          have Hne : Hid ((a.f 0 != n.T l) = ne) := hide (by rw [hnee]; exact hne0)
          have Hnee := hide hnee
          clear Hext3 he Hbe hne0 hl0 hnee
          go_wp2_with fail
          try simp only [Hd1.out, Hd2.out, Bool.false_or]
          clear x0 x1 x2 x3 x4 cF hfr' hlneg hlge hli hlen hll
          refine wp_region_only (fun W => PBG w n a b X Y zeroR zeroR xb yb bb mb W) (valsE [n.val, a.val, .bool true, .bool false, .bool false, n.val, a.val, .bool true, .bool true, .pointer (some ⟨w.heap.size + 1, 1, none⟩), .slice (some ⟨a.b, a.o, none⟩) a.l a.q, .pointer (some ⟨a.b, a.o, none⟩), .int .i64 (a.f 0), .pointer (some ⟨w.heap.size, 4, none⟩), .slice (some ⟨n.lb, n.lo, none⟩) n.ln n.lc, .int .i64 (l : Int), .pointer (some ⟨n.lb, n.lo + l * 3, none⟩), .pointer (some ⟨n.lb, n.lo + l * 3 + 1, none⟩), .int .i64 (n.T l), .bool ne, .bool ne, .bool ne, .bool ne]) (by kernel_rfl) (by kernel_rfl) (by kernel_rfl) (HG9.out.keep (below_drewN (Below.refl _ _) 1)) ⟨?_, ?_, ?_, ?_, ?_, ?_, ?_, ?_, ?_, ?_, ?_, ?_, ?_, ?_, ?_, ?_, ?_, ?_, ?_, ?_, ?_, ?_, ?_, trivial⟩ ?_
          rotate_right
          · intro t W hG hE
            have e22 := valsE_get (hE 22 (by decide)) rfl
            have HG' := hide hG
            clear hE hG
            simp only [fill, Act.put, List.setIfInBounds_toArray, List.set_cons_zero, List.set_cons_succ, e22]
            clear e22
            obtain rfl := Hnee.out
            clear HG9
            clear HBo HEo HRa HRb HVa
            go_wp2_with fail
            go_at_call 39
            refine (pathBegun_any _).mono ?_
            rintro e wA ⟨rfl, hbA⟩
            have HGA := hide (HG'.out.keep hbA)
            have HI1 := hide (routeIs_yes X zeroR 4 wA HGA.out.xi HGA.out.bi (fun h => absurd h (by decide)) (fun _ => HX.out))
            have p0 := HGA.out.xk.cell 0
            have p1 := HGA.out.xk.cell 1
            simp [RtM.cells] at p0 p1
            have q0 := HGA.out.bk.cell 0
            have q1 := HGA.out.bk.cell 1
            simp [RtM.cells] at q0 q1
            simp only [RtM.val, RtM.cells] at HI1
            simp only [zeroR] at HI1 q0 q1
            clear hbA HG'
            go_wp2_with fail
            go_at_call 40
            refine HI1.out.mono ?_
            rintro e wB ⟨rfl, hbB⟩
            have HGB := hide (HGA.out.keep hbB)
            have HI2 := hide (routeIs_yes Y zeroR 4 wB HGB.out.yi HGB.out.mi (fun h => absurd h (by decide)) (fun _ => HY.out))
            clear p0 p1 q0 q1 HI1
            have p0 := HGB.out.yk.cell 0
            have p1 := HGB.out.yk.cell 1
            simp [RtM.cells] at p0 p1
            have q0 := HGB.out.nk.cell 0
            have q1 := HGB.out.nk.cell 1
            simp [RtM.cells] at q0 q1
            simp only [RtM.val, RtM.cells] at HI2
            simp only [zeroR] at HI2 q0 q1
            clear hbB HGA
            go_wp2_with fail
            go_at_call 40
            refine HI2.out.mono ?_
            rintro e wC ⟨rfl, hbC⟩
            have HBf := hide (HGB.out.keep hbC).below
            clear hbC HGB HI2 p0 p1 q0 q1
            go_wp2
            go_ret
            exact ⟨rfl, HBf.out⟩
          all_goals intro t W hG hp K hK
          all_goals simp only [fill, Act.put, List.setIfInBounds_toArray, List.set_cons_zero, List.set_cons_succ] at hK ⊢
          · have bN := hG.net
            have x0 := bN.cell 0
            have x1 := bN.cell 1
            have x2 := bN.cell 2
            have x3 := bN.cell 3
            have x4 := bN.cell 4
            simp [NetM.cells, Mat.val] at x0 x1 x2 x3 x4
            rw [if_pos (by rfl)]
            go_simp
            exact hK _ W hG rfl (fun _ _ _ h => h)
          · have y0 := hG.one.cell 0
            have y1 := hG.one.cell 1
            simp [RtM.cells] at y0 y1
            rw [if_pos (by rfl)]
            go_simp
            exact hK _ W hG rfl (fun _ _ _ h => h)
          · have e0 := valsE_get (hp 0 (by decide)) rfl
            have e1 := valsE_get (hp 1 (by decide)) rfl
            simp only [NetM.val, NetM.cells, Mat.val] at e0
            simp only [RtM.val, RtM.cells] at e1
            simp only [e0, e1] at hK ⊢
            rw [if_pos (by rfl)]
            go_simp
            go_at_call 35
            refine (HRa.out W hG.below).mono ?_
            rintro e W' ⟨rfl, hb⟩
            go_simp
            exact hK _ W' (hG.keep hb) rfl (fun _ _ _ h => h)
          · have e2 := valsE_get (hp 2 (by decide)) rfl
            simp only [e2] at hK ⊢
            rw [if_pos (by rfl)]
            go_simp
            exact hK _ W hG rfl (fun _ _ _ h => h)
          · have e3 := valsE_get (hp 3 (by decide)) rfl
            simp only [e3] at hK ⊢
            rw [if_pos (by rfl)]
            go_simp
            exact hK _ W hG rfl (fun _ _ _ h => h)
          · have e4 := valsE_get (hp 4 (by decide)) rfl
            have bN := hG.net
            have x0 := bN.cell 0
            have x1 := bN.cell 1
            have x2 := bN.cell 2
            have x3 := bN.cell 3
            have x4 := bN.cell 4
            simp [NetM.cells, Mat.val] at x0 x1 x2 x3 x4
            simp only [e4] at hK ⊢
            rw [if_pos (by rfl)]
            go_simp
            exact hK _ W hG rfl (fun _ _ _ h => h)
          · have e4 := valsE_get (hp 4 (by decide)) rfl
            have y0 := hG.one.cell 0
            have y1 := hG.one.cell 1
            simp [RtM.cells] at y0 y1
            simp only [e4] at hK ⊢
            rw [if_pos (by rfl)]
            go_simp
            exact hK _ W hG rfl (fun _ _ _ h => h)
          · have e4 := valsE_get (hp 4 (by decide)) rfl
            have e5 := valsE_get (hp 5 (by decide)) rfl
            have e6 := valsE_get (hp 6 (by decide)) rfl
            simp only [NetM.val, NetM.cells, Mat.val] at e5
            simp only [RtM.val, RtM.cells] at e6
            simp only [e4, e5, e6] at hK ⊢
            rw [if_pos (by rfl)]
            go_simp
            go_at_call 37
            refine (HVa.out W).mono ?_
            rintro e W' ⟨rfl, hb⟩
            go_simp
            exact hK _ W' (hG.keep hb) rfl (fun _ _ _ h => h)
          · have e4 := valsE_get (hp 4 (by decide)) rfl
            have e7 := valsE_get (hp 7 (by decide)) rfl
            simp only [e4, e7] at hK ⊢
            rw [if_pos (by rfl)]
            go_simp
            exact hK _ W hG rfl (fun _ _ _ h => h)
          · have e8 := valsE_get (hp 8 (by decide)) rfl
            simp only [e8] at hK ⊢
            rw [if_pos (by rfl)]
            go_simp
            exact hK _ W hG rfl (fun _ _ _ h => h)
          · have e8 := valsE_get (hp 8 (by decide)) rfl
            have e9 := valsE_get (hp 9 (by decide)) rfl
            have y1 := hG.one.cell 1
            simp [RtM.cells] at y1
            rw [Hpa.out] at y1
            simp only [e8, e9] at hK ⊢
            rw [if_pos (by rfl)]
            go_simp
            exact hK _ W hG rfl (fun _ _ _ h => h)
          · have e8 := valsE_get (hp 8 (by decide)) rfl
            have e10 := valsE_get (hp 10 (by decide)) rfl
            have hl0i := Hl0i.out
            simp only [e8, e10] at hK ⊢
            rw [if_pos (by rfl)]
            go_simp
            exact hK _ W hG rfl (fun _ _ _ h => h)
          · have e8 := valsE_get (hp 8 (by decide)) rfl
            have e11 := valsE_get (hp 11 (by decide)) rfl
            have c1 := HAc.out W hG.below
            simp only [e8, e11] at hK ⊢
            rw [if_pos (by rfl)]
            go_simp
            exact hK _ W hG rfl (fun _ _ _ h => h)
          · have e8 := valsE_get (hp 8 (by decide)) rfl
            simp only [e8] at hK ⊢
            rw [if_pos (by rfl)]
            go_simp
            exact hK _ W hG rfl (fun _ _ _ h => h)
          · have e8 := valsE_get (hp 8 (by decide)) rfl
            have e13 := valsE_get (hp 13 (by decide)) rfl
            have x4 := hG.net.cell 4
            simp [NetM.cells] at x4
            rw [Hla.out] at x4
            simp only [e8, e13] at hK ⊢
            rw [if_pos (by rfl)]
            go_simp
            exact hK _ W hG rfl (fun _ _ _ h => h)
          · have e8 := valsE_get (hp 8 (by decide)) rfl
            simp only [e8] at hK ⊢
            rw [if_pos (by rfl)]
            go_simp
            exact hK _ W hG rfl (fun _ _ _ h => h)
          · have e8 := valsE_get (hp 8 (by decide)) rfl
            have e14 := valsE_get (hp 14 (by decide)) rfl
            have e15 := valsE_get (hp 15 (by decide)) rfl
            have hli := Hli.out
            simp only [e8, e14, e15] at hK ⊢
            rw [if_pos (by rfl)]
            go_simp
            exact hK _ W hG rfl (fun _ _ _ h => h)
          · have e8 := valsE_get (hp 8 (by decide)) rfl
            have e16 := valsE_get (hp 16 (by decide)) rfl
            simp only [e8, e16] at hK ⊢
            rw [if_pos (by rfl)]
            go_simp
            exact hK _ W hG rfl (fun _ _ _ h => h)
          · have e8 := valsE_get (hp 8 (by decide)) rfl
            have e17 := valsE_get (hp 17 (by decide)) rfl
            have c2 := HTc.out W hG.below
            simp only [e8, e17] at hK ⊢
            rw [if_pos (by rfl)]
            go_simp
            exact hK _ W hG rfl (fun _ _ _ h => h)
          · have e8 := valsE_get (hp 8 (by decide)) rfl
            have e12 := valsE_get (hp 12 (by decide)) rfl
            have e18 := valsE_get (hp 18 (by decide)) rfl
            have hne := Hne.out
            simp only [e8, e12, e18] at hK ⊢
            rw [if_pos (by rfl)]
            go_simp
            exact hK _ W hG rfl (fun _ _ _ h => h)
          · have e4 := valsE_get (hp 4 (by decide)) rfl
            have e8 := valsE_get (hp 8 (by decide)) rfl
            have e19 := valsE_get (hp 19 (by decide)) rfl
            simp only [e4, e8, e19] at hK ⊢
            rw [if_pos (by rfl)]
            go_simp
            exact hK _ W hG rfl (fun _ _ _ h => h)
          · have e4 := valsE_get (hp 4 (by decide)) rfl
            have e20 := valsE_get (hp 20 (by decide)) rfl
            simp only [e4, e20] at hK ⊢
            rw [if_pos (by rfl)]
            go_simp
            exact hK _ W hG rfl (fun _ _ _ h => h)
          · have e21 := valsE_get (hp 21 (by decide)) rfl
            simp only [e21] at hK ⊢
            rw [if_pos (by rfl)]
            go_simp
            exact hK _ W hG rfl (fun _ _ _ h => h)
        | false =>
          have he : (e1, e2) = (0, n.net.ext fr en a.rt) := by rw [Hext3.out, if_pos ⟨hra, by rw [Hbe.out]; simpa using hne0⟩]
          obtain ⟨rfl, rfl⟩ := Prod.mk.inj he
          have HEo := hide (fun W (hb : Below w.heap.size w W) => HEo.out en hel (by trivial) hra W hb)
          generalize n.net.ext fr en a.rt = ex at *
          obtain ⟨ne, hnee⟩ : ∃ ne, ne = false := ⟨_, rfl⟩
          have Hne : Hid ((a.f 0 != n.T l) = ne) := hide (by rw [hnee]; exact hne0)
          have Hnee := hide hnee
          clear Hext3 he Hbe hne0 hl0 hnee
          go_wp2_with fail
          try simp only [Hd1.out, Hd2.out, Bool.false_or]
          clear x0 x1 x2 x3 x4 cF hfr' hlneg hlge hli hlen hll
          refine wp_region_only (fun W => PBG w n a b X Y zeroR zeroR xb yb bb mb W) (valsE [n.val, a.val, .bool true, .bool false, .bool false, n.val, a.val, .bool true, .bool true, .pointer (some ⟨w.heap.size + 1, 1, none⟩), .slice (some ⟨a.b, a.o, none⟩) a.l a.q, .pointer (some ⟨a.b, a.o, none⟩), .int .i64 (a.f 0), .pointer (some ⟨w.heap.size, 4, none⟩), .slice (some ⟨n.lb, n.lo, none⟩) n.ln n.lc, .int .i64 (l : Int), .pointer (some ⟨n.lb, n.lo + l * 3, none⟩), .pointer (some ⟨n.lb, n.lo + l * 3 + 1, none⟩), .int .i64 (n.T l), .bool ne, .bool ne, .bool ne, .bool ne]) (by kernel_rfl) (by kernel_rfl) (by kernel_rfl) (HG9.out.keep (below_drewN (Below.refl _ _) 1)) ⟨?_, ?_, ?_, ?_, ?_, ?_, ?_, ?_, ?_, ?_, ?_, ?_, ?_, ?_, ?_, ?_, ?_, ?_, ?_, ?_, ?_, ?_, ?_, trivial⟩ ?_
          rotate_right
          · intro t W hG hE
            have e22 := valsE_get (hE 22 (by decide)) rfl
            have HG' := hide hG
            clear hE hG
            simp only [fill, Act.put, List.setIfInBounds_toArray, List.set_cons_zero, List.set_cons_succ, e22]
            clear e22
            obtain rfl := Hnee.out
            clear HG9
            go_wp2_with fail
            refine wp_region_last 10 _ (fun W => PBG w n a b X Y zeroR zeroR xb yb bb mb W) (pbE [n.val, .int .i64 fr, .pointer (some ⟨w.heap.size, 4, none⟩), .slice (some ⟨n.lb, n.lo, none⟩) n.ln n.lc, .int .i64 (l : Int), .pointer (some ⟨n.lb, n.lo + l * 3, none⟩), .pointer (some ⟨n.lb, n.lo + l * 3 + 2, none⟩), .int .i64 (en : Int), a.val] ex bb mb) (fun _ W => ∃ M : RtM, PBG w n a b X Y zeroR M xb yb bb mb W ∧ M.rt = ex) (fun _ _ _ => True) (by kernel_rfl) (by kernel_rfl) (by kernel_rfl) (by kernel_rfl) (by kernel_rfl) rfl (HG'.out.keep (below_drewN (Below.refl _ _) 1)) ⟨?_, ?_, ?_, ?_, ?_, ?_, ?_, ?_, ?_, ?_, trivial⟩ ?_ trivial ?_
            rotate_right
            · intro t W hG _
              simp only [fill, Act.put, List.setIfInBounds_toArray, List.set_cons_zero, List.set_cons_succ]
              obtain ⟨M, hM, hMx⟩ := hG
              have HM := hide hM
              have HMx := hide hMx
              clear hM hMx HG'
              clear HBo HEo HRa HRb HVa
              go_wp2_with fail
              go_at_call 39
              refine (pathBegun_any _).mono ?_
              rintro e wA ⟨rfl, hbA⟩
              have HGA := hide (HM.out.keep hbA)
              have HI1 := hide (routeIs_yes X zeroR 4 wA HGA.out.xi HGA.out.bi (fun h => absurd h (by decide)) (fun _ => HX.out))
              have p0 := HGA.out.xk.cell 0
              have p1 := HGA.out.xk.cell 1
              simp [RtM.cells] at p0 p1
              have q0 := HGA.out.bk.cell 0
              have q1 := HGA.out.bk.cell 1
              simp [RtM.cells] at q0 q1
              simp only [RtM.val, RtM.cells] at HI1
              simp only [zeroR] at HI1 q0 q1
              clear hbA HM
              go_wp2_with fail
              go_at_call 40
              refine HI1.out.mono ?_
              rintro e wB ⟨rfl, hbB⟩
              have HGB := hide (HGA.out.keep hbB)
              have HI2 := hide (routeIs_yes Y M 0 wB HGB.out.yi HGB.out.mi (fun _ => HY.out.trans HMx.out.symm) (fun h => absurd rfl h))
              clear p0 p1 q0 q1 HI1
              have p0 := HGB.out.yk.cell 0
              have p1 := HGB.out.yk.cell 1
              simp [RtM.cells] at p0 p1
              have q0 := HGB.out.nk.cell 0
              have q1 := HGB.out.nk.cell 1
              simp [RtM.cells] at q0 q1
              simp only [RtM.val, RtM.cells] at HI2
            
              clear hbB HGA
              go_wp2_with fail
              go_at_call 40
              refine HI2.out.mono ?_
              rintro e wC ⟨rfl, hbC⟩
              have HBf := hide (HGB.out.keep hbC).below
              clear hbC HGB HI2 p0 p1 q0 q1
              go_wp2
              go_ret
              exact ⟨rfl, HBf.out⟩
            rotate_right
            · intro t W hG hE _ K hK
              simp only [fill, Act.put, List.setIfInBounds_toArray, List.set_cons_zero, List.set_cons_succ] at hK ⊢
              rw [if_pos (by rfl)]
              obtain ⟨r, e9, h1, h2, h3⟩ := hE 9 (by omega)
              have o0 := hG.nk.cell 0
              have o1 := hG.nk.cell 1
              have f0 := hG.nk.frozen 0
              have f1 := hG.nk.frozen 1
              simp [RtM.cells] at o0 o1
              have hN := hide (And.intro (hG.putM h1 h3) h2)
              clear hG hE h1 h2 h3
              simp only [e9, RtM.val, RtM.cells] at hK ⊢
              go_simp
              exact hK undef _ ⟨r, hN.out⟩
            all_goals intro t W hG hp _ K hK
            all_goals simp only [fill, Act.put, List.setIfInBounds_toArray, List.set_cons_zero, List.set_cons_succ] at hK ⊢
            · have bN := hG.net
              have x0 := bN.cell 0
              have x1 := bN.cell 1
              have x2 := bN.cell 2
              have x3 := bN.cell 3
              have x4 := bN.cell 4
              simp [NetM.cells, Mat.val] at x0 x1 x2 x3 x4
              rw [if_pos (by rfl)]
              go_simp
              exact hK _ W hG rfl (fun _ _ _ h => h)
            · rw [if_pos (by rfl)]
              go_simp
              exact hK _ W hG rfl (fun _ _ _ h => h)
            · rw [if_pos (by rfl)]
              go_simp
              exact hK _ W hG rfl (fun _ _ _ h => h)
            · have e2 := pbE_get (hp 2 (by decide)) (by decide) rfl
              have x4 := hG.net.cell 4
              simp [NetM.cells] at x4
              rw [Hla.out] at x4
              simp only [e2] at hK ⊢
              rw [if_pos (by rfl)]
              go_simp
              exact hK _ W hG rfl (fun _ _ _ h => h)
            · rw [if_pos (by rfl)]
              go_simp
              exact hK _ W hG rfl (fun _ _ _ h => h)
            · have e3 := pbE_get (hp 3 (by decide)) (by decide) rfl
              have e4 := pbE_get (hp 4 (by decide)) (by decide) rfl
              have hli := Hli.out
              simp only [e3, e4] at hK ⊢
              rw [if_pos (by rfl)]
              go_simp
              exact hK _ W hG rfl (fun _ _ _ h => h)
            · have e5 := pbE_get (hp 5 (by decide)) (by decide) rfl
              simp only [e5] at hK ⊢
              rw [if_pos (by rfl)]
              go_simp
              exact hK _ W hG rfl (fun _ _ _ h => h)
            · have e6 := pbE_get (hp 6 (by decide)) (by decide) rfl
              have c2 := HEc.out W hG.below
              simp only [e6] at hK ⊢
              rw [if_pos (by rfl)]
              go_simp
              exact hK _ W hG rfl (fun _ _ _ h => h)
            · have y0 := hG.one.cell 0
              have y1 := hG.one.cell 1
              simp [RtM.cells] at y0 y1
              rw [if_pos (by rfl)]
              go_simp
              exact hK _ W hG rfl (fun _ _ _ h => h)
            · have e0 := pbE_get (hp 0 (by decide)) (by decide) rfl
              have e1 := pbE_get (hp 1 (by decide)) (by decide) rfl
              have e7 := pbE_get (hp 7 (by decide)) (by decide) rfl
              have e8 := pbE_get (hp 8 (by decide)) (by decide) rfl
              simp only [NetM.val, NetM.cells, Mat.val] at e0
              simp only [RtM.val, RtM.cells] at e8
              simp only [e0, e1, e7, e8] at hK ⊢
              rw [if_pos (by rfl)]
              go_simp
              go_at_call 38
              refine (HEo.out W hG.below).mono ?_
              rintro e W' ⟨⟨r', rfl, hm⟩, hb⟩
              go_simp
              have hlt1 := hG.bk.lt
              have hlt2 := hG.nk.lt
              exact hK _ W' (hG.keep hb) ⟨r', rfl, hm.mem, hm.same, fun h0 => by have := hm.own h0; omega⟩ (fun q u _ => pbE.keep hb q u)
          all_goals intro t W hG hp K hK
          all_goals simp only [fill, Act.put, List.setIfInBounds_toArray, List.set_cons_zero, List.set_cons_succ] at hK ⊢
          · have bN := hG.net
            have x0 := bN.cell 0
            have x1 := bN.cell 1
            have x2 := bN.cell 2
            have x3 := bN.cell 3
            have x4 := bN.cell 4
            simp [NetM.cells, Mat.val] at x0 x1 x2 x3 x4
            rw [if_pos (by rfl)]
            go_simp
            exact hK _ W hG rfl (fun _ _ _ h => h)
          · have y0 := hG.one.cell 0
            have y1 := hG.one.cell 1
            simp [RtM.cells] at y0 y1
            rw [if_pos (by rfl)]
            go_simp
            exact hK _ W hG rfl (fun _ _ _ h => h)
          · have e0 := valsE_get (hp 0 (by decide)) rfl
            have e1 := valsE_get (hp 1 (by decide)) rfl
            simp only [NetM.val, NetM.cells, Mat.val] at e0
            simp only [RtM.val, RtM.cells] at e1
            simp only [e0, e1] at hK ⊢
            rw [if_pos (by rfl)]
            go_simp
            go_at_call 35
            refine (HRa.out W hG.below).mono ?_
            rintro e W' ⟨rfl, hb⟩
            go_simp
            exact hK _ W' (hG.keep hb) rfl (fun _ _ _ h => h)
          · have e2 := valsE_get (hp 2 (by decide)) rfl
            simp only [e2] at hK ⊢
            rw [if_pos (by rfl)]
            go_simp
            exact hK _ W hG rfl (fun _ _ _ h => h)
          · have e3 := valsE_get (hp 3 (by decide)) rfl
            simp only [e3] at hK ⊢
            rw [if_pos (by rfl)]
            go_simp
            exact hK _ W hG rfl (fun _ _ _ h => h)
          · have e4 := valsE_get (hp 4 (by decide)) rfl
            have bN := hG.net
            have x0 := bN.cell 0
            have x1 := bN.cell 1
            have x2 := bN.cell 2
            have x3 := bN.cell 3
            have x4 := bN.cell 4
            simp [NetM.cells, Mat.val] at x0 x1 x2 x3 x4
            simp only [e4] at hK ⊢
            rw [if_pos (by rfl)]
            go_simp
            exact hK _ W hG rfl (fun _ _ _ h => h)
          · have e4 := valsE_get (hp 4 (by decide)) rfl
            have y0 := hG.one.cell 0
            have y1 := hG.one.cell 1
            simp [RtM.cells] at y0 y1
            simp only [e4] at hK ⊢
            rw [if_pos (by rfl)]
            go_simp
            exact hK _ W hG rfl (fun _ _ _ h => h)
          · have e4 := valsE_get (hp 4 (by decide)) rfl
            have e5 := valsE_get (hp 5 (by decide)) rfl
            have e6 := valsE_get (hp 6 (by decide)) rfl
            simp only [NetM.val, NetM.cells, Mat.val] at e5
            simp only [RtM.val, RtM.cells] at e6
            simp only [e4, e5, e6] at hK ⊢
            rw [if_pos (by rfl)]
            go_simp
            go_at_call 37
            refine (HVa.out W).mono ?_
            rintro e W' ⟨rfl, hb⟩
            go_simp
            exact hK _ W' (hG.keep hb) rfl (fun _ _ _ h => h)
          · have e4 := valsE_get (hp 4 (by decide)) rfl
            have e7 := valsE_get (hp 7 (by decide)) rfl
            simp only [e4, e7] at hK ⊢
            rw [if_pos (by rfl)]
            go_simp
            exact hK _ W hG rfl (fun _ _ _ h => h)
          · have e8 := valsE_get (hp 8 (by decide)) rfl
            simp only [e8] at hK ⊢
            rw [if_pos (by rfl)]
            go_simp
            exact hK _ W hG rfl (fun _ _ _ h => h)
          · have e8 := valsE_get (hp 8 (by decide)) rfl
            have e9 := valsE_get (hp 9 (by decide)) rfl
            have y1 := hG.one.cell 1
            simp [RtM.cells] at y1
            rw [Hpa.out] at y1
            simp only [e8, e9] at hK ⊢
            rw [if_pos (by rfl)]
            go_simp
            exact hK _ W hG rfl (fun _ _ _ h => h)
          · have e8 := valsE_get (hp 8 (by decide)) rfl
            have e10 := valsE_get (hp 10 (by decide)) rfl
            have hl0i := Hl0i.out
            simp only [e8, e10] at hK ⊢
            rw [if_pos (by rfl)]
            go_simp
            exact hK _ W hG rfl (fun _ _ _ h => h)
          · have e8 := valsE_get (hp 8 (by decide)) rfl
            have e11 := valsE_get (hp 11 (by decide)) rfl
            have c1 := HAc.out W hG.below
            simp only [e8, e11] at hK ⊢
            rw [if_pos (by rfl)]
            go_simp
            exact hK _ W hG rfl (fun _ _ _ h => h)
          · have e8 := valsE_get (hp 8 (by decide)) rfl
            simp only [e8] at hK ⊢
            rw [if_pos (by rfl)]
            go_simp
            exact hK _ W hG rfl (fun _ _ _ h => h)
          · have e8 := valsE_get (hp 8 (by decide)) rfl
            have e13 := valsE_get (hp 13 (by decide)) rfl
            have x4 := hG.net.cell 4
            simp [NetM.cells] at x4
            rw [Hla.out] at x4
            simp only [e8, e13] at hK ⊢
            rw [if_pos (by rfl)]
            go_simp
            exact hK _ W hG rfl (fun _ _ _ h => h)
          · have e8 := valsE_get (hp 8 (by decide)) rfl
            simp only [e8] at hK ⊢
            rw [if_pos (by rfl)]
            go_simp
            exact hK _ W hG rfl (fun _ _ _ h => h)
          · have e8 := valsE_get (hp 8 (by decide)) rfl
            have e14 := valsE_get (hp 14 (by decide)) rfl
            have e15 := valsE_get (hp 15 (by decide)) rfl
            have hli := Hli.out
            simp only [e8, e14, e15] at hK ⊢
            rw [if_pos (by rfl)]
            go_simp
            exact hK _ W hG rfl (fun _ _ _ h => h)
          · have e8 := valsE_get (hp 8 (by decide)) rfl
            have e16 := valsE_get (hp 16 (by decide)) rfl
            simp only [e8, e16] at hK ⊢
            rw [if_pos (by rfl)]
            go_simp
            exact hK _ W hG rfl (fun _ _ _ h => h)
          · have e8 := valsE_get (hp 8 (by decide)) rfl
            have e17 := valsE_get (hp 17 (by decide)) rfl
            have c2 := HTc.out W hG.below
            simp only [e8, e17] at hK ⊢
            rw [if_pos (by rfl)]
            go_simp
            exact hK _ W hG rfl (fun _ _ _ h => h)
          · have e8 := valsE_get (hp 8 (by decide)) rfl
            have e12 := valsE_get (hp 12 (by decide)) rfl
            have e18 := valsE_get (hp 18 (by decide)) rfl
            have hne := Hne.out
            simp only [e8, e12, e18] at hK ⊢
            rw [if_pos (by rfl)]
            go_simp
            exact hK _ W hG rfl (fun _ _ _ h => h)
          · have e4 := valsE_get (hp 4 (by decide)) rfl
            have e8 := valsE_get (hp 8 (by decide)) rfl
            have e19 := valsE_get (hp 19 (by decide)) rfl
            simp only [e4, e8, e19] at hK ⊢
            rw [if_pos (by rfl)]
            go_simp
            exact hK _ W hG rfl (fun _ _ _ h => h)
          · have e4 := valsE_get (hp 4 (by decide)) rfl
            have e20 := valsE_get (hp 20 (by decide)) rfl
            simp only [e4, e20] at hK ⊢
            rw [if_pos (by rfl)]
            go_simp
            exact hK _ W hG rfl (fun _ _ _ h => h)
          · have e21 := valsE_get (hp 21 (by decide)) rfl
            simp only [e21] at hK ⊢
            rw [if_pos (by rfl)]
            go_simp
            exact hK _ W hG rfl (fun _ _ _ h => h)
    | true =>
      have hb1 : (v1, v2) = (0, n.net.bestR a.rt b.rt) := by rw [Hbst2.out, if_pos ⟨hra, hrb⟩]
      obtain ⟨rfl, rfl⟩ := Prod.mk.inj hb1
      have HX := HX0
      have HB1 := hide (HBo.out hra hrb w9 HG9.out.below)
      generalize n.net.bestR a.rt b.rt = br at *
      have x0 := HG9.out.net.cell 0
      have x1 := HG9.out.net.cell 1
      have x2 := HG9.out.net.cell 2
      have x3 := HG9.out.net.cell 3
      have x4 := HG9.out.net.cell 4
      simp [NetM.cells, Mat.val] at x0 x1 x2 x3 x4
      have y0 := HG9.out.one.cell 0
      have y1 := HG9.out.one.cell 1
      simp [RtM.cells] at y0 y1
      have z0 := HG9.out.two.cell 0
      have z1 := HG9.out.two.cell 1
      simp [RtM.cells] at z0 z1
      clear Hbst2 hb1 HX0
      go_wp2_with fail
      go_at_call 36
      refine HB1.out.mono ?_
      rintro e w10 ⟨⟨B, rfl, hBab, hBx⟩, hb10⟩
      have hGt := HG9.out.keep hb10
      have o0 := hGt.bk.cell 0
      have o1 := hGt.bk.cell 1
      have f0 := hGt.bk.frozen 0
      have f1 := hGt.bk.frozen 1
      simp [RtM.cells, zeroR] at o0 o1
      have hlo := hGt.lo
      have HG10 := hide (hGt.putB (r := B) (by rcases hBab with rfl | rfl; exact HIaG.out w10 hGt.below; exact HIbG.out w10 hGt.below) (fun h0 => by
        have : B.b < w.heap.size := by rcases hBab with rfl | rfl; exact Hab.out h0; exact Hbb.out h0
        omega))
      have HBx := hide hBx
      try simp only []
      clear hBab hBx hb10 hGt hlo HG9 HB1 x0 x1 x2 x3 x4 y0 y1 z0 z1
      obtain ⟨W11, hW11⟩ : ∃ W11, W11 = (w10.setCell ⟨bb, 0, none⟩ (.int .i64 B.w)).setCell ⟨bb, 1, none⟩ (.slice B.pa B.l B.q) := ⟨_, rfl⟩
      rw [← hW11] at HG10
      have HW11 := hide hW11
      clear hW11
      by_cases hlr : 0 ≤ l0 ∧ l0 < (n.ln : Int)
      rotate_left
      · have he : (e1, e2) = (5, Rt.zero) := by rw [Hext.out, if_pos hlr]
        obtain ⟨rfl, rfl⟩ := Prod.mk.inj he
        clear Hext
        by_cases h0 : l0 < 0
        · clear hlr he
          clear HBo HEo HRa HRb HVa
          go_wp2_with fail
          rw [← HW11.out]
          go_at_call 39
          refine (pathBegun_any _).mono ?_
          rintro e wA ⟨rfl, hbA⟩
          have HGA := hide (HG10.out.keep hbA)
          have HI1 := hide (routeIs_yes X B 0 wA HGA.out.xi HGA.out.bi (fun _ => HX.out.trans HBx.out.symm) (fun h => absurd rfl h))
          have p0 := HGA.out.xk.cell 0
          have p1 := HGA.out.xk.cell 1
          simp [RtM.cells] at p0 p1
          have q0 := HGA.out.bk.cell 0
          have q1 := HGA.out.bk.cell 1
          simp [RtM.cells] at q0 q1
          simp only [RtM.val, RtM.cells] at HI1

          clear hbA HG10
          go_wp2_with fail
          go_at_call 40
          refine HI1.out.mono ?_
          rintro e wB ⟨rfl, hbB⟩
          have HGB := hide (HGA.out.keep hbB)
          have HI2 := hide (routeIs_yes Y zeroR 5 wB HGB.out.yi HGB.out.mi (fun h => absurd h (by decide)) (fun _ => HY.out))
          clear p0 p1 q0 q1 HI1
          have p0 := HGB.out.yk.cell 0
          have p1 := HGB.out.yk.cell 1
          simp [RtM.cells] at p0 p1
          have q0 := HGB.out.nk.cell 0
          have q1 := HGB.out.nk.cell 1
          simp [RtM.cells] at q0 q1
          simp only [RtM.val, RtM.cells] at HI2
          simp only [zeroR] at HI2 q0 q1
          clear hbB HGA
          go_wp2_with fail
          go_at_call 40
          refine HI2.out.mono ?_
          rintro e wC ⟨rfl, hbC⟩
          have HBf := hide (HGB.out.keep hbC).below
          clear hbC HGB HI2 p0 p1 q0 q1
          go_wp2
          go_ret
          exact ⟨rfl, HBf.out⟩
        · have h1 : (n.ln : Int) ≤ l0 := by omega
          clear hlr he
          have x0 := HG10.out.net.cell 0
          have x1 := HG10.out.net.cell 1
          have x2 := HG10.out.net.cell 2
          have x3 := HG10.out.net.cell 3
          have x4 := HG10.out.net.cell 4
          simp [NetM.cells, Mat.val] at x0 x1 x2 x3 x4
          rw [HW11.out] at x4
          clear x0 x1 x2 x3 HBo HEo HRa HRb HVa
          go_wp2_with fail
          rw [← HW11.out]
          go_at_call 39
          refine (pathBegun_any _).mono ?_
          rintro e wA ⟨rfl, hbA⟩
          have HGA := hide (HG10.out.keep hbA)
          have HI1 := hide (routeIs_yes X B 0 wA HGA.out.xi HGA.out.bi (fun _ => HX.out.trans HBx.out.symm) (fun h => absurd rfl h))
          have p0 := HGA.out.xk.cell 0
          have p1 := HGA.out.xk.cell 1
          simp [RtM.cells] at p0 p1
          have q0 := HGA.out.bk.cell 0
          have q1 := HGA.out.bk.cell 1
          simp [RtM.cells] at q0 q1
          simp only [RtM.val, RtM.cells] at HI1

          clear hbA HG10
          go_wp2_with fail
          go_at_call 40
          refine HI1.out.mono ?_
          rintro e wB ⟨rfl, hbB⟩
          have HGB := hide (HGA.out.keep hbB)
          have HI2 := hide (routeIs_yes Y zeroR 5 wB HGB.out.yi HGB.out.mi (fun h => absurd h (by decide)) (fun _ => HY.out))
          clear p0 p1 q0 q1 HI1
          have p0 := HGB.out.yk.cell 0
          have p1 := HGB.out.yk.cell 1
          simp [RtM.cells] at p0 p1
          have q0 := HGB.out.nk.cell 0
          have q1 := HGB.out.nk.cell 1
          simp [RtM.cells] at q0 q1
          simp only [RtM.val, RtM.cells] at HI2
          simp only [zeroR] at HI2 q0 q1
          clear hbB HGA
          go_wp2_with fail
          go_at_call 40
          refine HI2.out.mono ?_
          rintro e wC ⟨rfl, hbC⟩
          have HBf := hide (HGB.out.keep hbC).below
          clear hbC HGB HI2 p0 p1 q0 q1
          go_wp2
          go_ret
          exact ⟨rfl, HBf.out⟩
      obtain ⟨l, rfl⟩ : ∃ l : Nat, l0 = l := ⟨l0.toNat, by omega⟩
      have hll : l < n.ln := by omega
      have hli : (l : Int) < (n.ln : Int) := by omega
      have hlneg : ¬ ((l : Int) < 0) := by omega
      have hlge : ¬ ((n.ln : Int) ≤ (l : Int)) := by omega
      have hd1 : decide ((l : Int) < 0) = false := decide_eq_false (by omega)
      have hd2 : decide (n.ln ≤ l) = false := decide_eq_false (by omega)
      have Hd1 := hide hd1
      have Hd2 := hide hd2
      clear hd1 hd2
      have Hli := hide hli
      have Hla : Hid (n.la = some ⟨n.lb, n.lo, none⟩) := hide (H.out.la (by omega))
      have Hgl := hide ((Hgd.out (by trivial)).link l hll)
      obtain ⟨en, hen⟩ : ∃ en : Nat, n.E l = en := ⟨(n.E l).toNat, by have := Hgl.out.2.2.2.2.1; have : n.net.E l = n.E l := rfl; omega⟩
      have hel : en < n.a.E.t.len := by
        have h5 := Hgl.out.2.2.2.2.2
        have q1 : n.net.E l = n.E l := rfl
        have q2 : n.net.a.E.len = n.a.E.t.len := rfl
        omega
      have HFc := hide (fun W (hb : Below w.heap.size w W) => (H.out.below hb (Nat.le_refl _)).f l hll)
      have HTc := hide (fun W (hb : Below w.heap.size w W) => (H.out.below hb (Nat.le_refl _)).t l hll)
      have HEc := hide (fun W (hb : Below w.heap.size w W) => (H.out.below hb (Nat.le_refl _)).e l hll)
      rw [hen] at HEc
      have Hext2 : Hid ((e1, e2) = if fr ≠ n.F l then (1, Rt.zero) else if n.net.right a.rt = true ∧ n.net.begR a.rt (n.T l) = true then (0, n.net.ext (n.F l) en a.rt) else (4, Rt.zero)) := hide (by rw [Hext.out, if_neg (by simp [hlr]), Int.toNat_natCast, hen])
      have x0 := HG10.out.net.cell 0
      have x1 := HG10.out.net.cell 1
      have x2 := HG10.out.net.cell 2
      have x3 := HG10.out.net.cell 3
      have x4 := HG10.out.net.cell 4
      simp [NetM.cells, Mat.val] at x0 x1 x2 x3 x4
      rw [Hla.out] at x4
      have cF := HFc.out _ HG10.out.below
      rw [HW11.out] at x0 x1 x2 x3 x4 cF
      clear Hext hlr hen Hgl
      by_cases hfr : n.F l = fr
      rotate_left
      · have hfr' : (n.F l != fr) = true := by simp [hfr]
        have he : (e1, e2) = (1, Rt.zero) := by rw [Hext2.out, if_pos (Ne.symm hfr)]
        obtain ⟨rfl, rfl⟩ := Prod.mk.inj he
        clear Hext2 hfr he
        clear HBo HEo HRa HRb HVa
        go_wp2_with fail
        rw [← HW11.out]
        clear x0 x1 x2 x3 x4 cF
        go_at_call 39
        refine (pathBegun_any _).mono ?_
        rintro e wA ⟨rfl, hbA⟩
        have HGA := hide (HG10.out.keep hbA)
        have HI1 := hide (routeIs_yes X B 0 wA HGA.out.xi HGA.out.bi (fun _ => HX.out.trans HBx.out.symm) (fun h => absurd rfl h))
        have p0 := HGA.out.xk.cell 0
        have p1 := HGA.out.xk.cell 1
        simp [RtM.cells] at p0 p1
        have q0 := HGA.out.bk.cell 0
        have q1 := HGA.out.bk.cell 1
        simp [RtM.cells] at q0 q1
        simp only [RtM.val, RtM.cells] at HI1

        clear hbA HG10
        go_wp2_with fail
        go_at_call 40
        refine HI1.out.mono ?_
        rintro e wB ⟨rfl, hbB⟩
        have HGB := hide (HGA.out.keep hbB)
        have HI2 := hide (routeIs_yes Y zeroR 1 wB HGB.out.yi HGB.out.mi (fun h => absurd h (by decide)) (fun _ => HY.out))
        clear p0 p1 q0 q1 HI1
        have p0 := HGB.out.yk.cell 0
        have p1 := HGB.out.yk.cell 1
        simp [RtM.cells] at p0 p1
        have q0 := HGB.out.nk.cell 0
        have q1 := HGB.out.nk.cell 1
        simp [RtM.cells] at q0 q1
        simp only [RtM.val, RtM.cells] at HI2
        simp only [zeroR] at HI2 q0 q1
        clear hbB HGA
        go_wp2_with fail
        go_at_call 40
        refine HI2.out.mono ?_
        rintro e wC ⟨rfl, hbC⟩
        have HBf := hide (HGB.out.keep hbC).below
        clear hbC HGB HI2 p0 p1 q0 q1
        go_wp2
        go_ret
        exact ⟨rfl, HBf.out⟩
      have hfr' : (n.F l != fr) = false := by simp [hfr]
      have Hext3 : Hid ((e1, e2) = if n.net.right a.rt = true ∧ n.net.begR a.rt (n.T l) = true then (0, n.net.ext fr en a.rt) else (4, Rt.zero)) := hide (by rw [Hext2.out, if_neg (by simp [hfr]), hfr])
      clear Hext2 hfr
      rw [hra] at HRa
      cases hva : n.net.valid a.rt with
      | false =>
        have he : (e1, e2) = (0, n.net.ext fr en a.rt) := by rw [Hext3.out, if_pos ⟨hra, by unfold Net.begR; rw [hva]; rfl⟩]
        obtain ⟨rfl, rfl⟩ := Prod.mk.inj he
        rw [hva] at HVa
        have HEo := hide (fun W (hb : Below w.heap.size w W) => HEo.out en hel (by trivial) hra W hb)
        generalize n.net.ext fr en a.rt = ex at *
        clear Hext3 he
        go_wp2_with fail
        rw [← HW11.out]
        try simp only [Hd1.out, Hd2.out, Bool.false_or]
        clear x0 x1 x2 x3 x4 cF hfr' hlneg hlge hli hlen hll
        refine wp_region_only (fun W => PBG w n a b X Y B zeroR xb yb bb mb W) (valsE [n.val, a.val, .bool true, .bool false, .bool false, n.val, a.val, .bool false, .bool false, undef, undef, undef, undef, undef, undef, undef, undef, undef, undef, undef, .bool false, .bool false, .bool false]) (by kernel_rfl) (by kernel_rfl) (by kernel_rfl) (HG10.out.keep (below_drewN (Below.refl _ _) 1)) ⟨?_, ?_, ?_, ?_, ?_, ?_, ?_, ?_, ?_, ?_, ?_, ?_, ?_, ?_, ?_, ?_, ?_, ?_, ?_, ?_, ?_, ?_, ?_, trivial⟩ ?_
        rotate_right
        · intro t W hG hE
          have e22 := valsE_get (hE 22 (by decide)) rfl
          have HG' := hide hG
          clear hE hG
          simp only [fill, Act.put, List.setIfInBounds_toArray, List.set_cons_zero, List.set_cons_succ, e22]
          clear e22
          clear HG10
          go_wp2_with fail
          refine wp_region_last 10 _ (fun W => PBG w n a b X Y B zeroR xb yb bb mb W) (pbE [n.val, .int .i64 fr, .pointer (some ⟨w.heap.size, 4, none⟩), .slice (some ⟨n.lb, n.lo, none⟩) n.ln n.lc, .int .i64 (l : Int), .pointer (some ⟨n.lb, n.lo + l * 3, none⟩), .pointer (some ⟨n.lb, n.lo + l * 3 + 2, none⟩), .int .i64 (en : Int), a.val] ex bb mb) (fun _ W => ∃ M : RtM, PBG w n a b X Y B M xb yb bb mb W ∧ M.rt = ex) (fun _ _ _ => True) (by kernel_rfl) (by kernel_rfl) (by kernel_rfl) (by kernel_rfl) (by kernel_rfl) rfl (HG'.out.keep (below_drewN (Below.refl _ _) 1)) ⟨?_, ?_, ?_, ?_, ?_, ?_, ?_, ?_, ?_, ?_, trivial⟩ ?_ trivial ?_
          rotate_right
          · intro t W hG _
            simp only [fill, Act.put, List.setIfInBounds_toArray, List.set_cons_zero, List.set_cons_succ]
            obtain ⟨M, hM, hMx⟩ := hG
            have HM := hide hM
            have HMx := hide hMx
            clear hM hMx HG'
            clear HBo HEo HRa HRb HVa
            go_wp2_with fail
            go_at_call 39
            refine (pathBegun_any _).mono ?_
            rintro e wA ⟨rfl, hbA⟩
            have HGA := hide (HM.out.keep hbA)
            have HI1 := hide (routeIs_yes X B 0 wA HGA.out.xi HGA.out.bi (fun _ => HX.out.trans HBx.out.symm) (fun h => absurd rfl h))
            have p0 := HGA.out.xk.cell 0
            have p1 := HGA.out.xk.cell 1
            simp [RtM.cells] at p0 p1
            have q0 := HGA.out.bk.cell 0
            have q1 := HGA.out.bk.cell 1
            simp [RtM.cells] at q0 q1
            simp only [RtM.val, RtM.cells] at HI1
          
            clear hbA HM
            go_wp2_with fail
            go_at_call 40
            refine HI1.out.mono ?_
            rintro e wB ⟨rfl, hbB⟩
            have HGB := hide (HGA.out.keep hbB)
            have HI2 := hide (routeIs_yes Y M 0 wB HGB.out.yi HGB.out.mi (fun _ => HY.out.trans HMx.out.symm) (fun h => absurd rfl h))
            clear p0 p1 q0 q1 HI1
            have p0 := HGB.out.yk.cell 0
            have p1 := HGB.out.yk.cell 1
            simp [RtM.cells] at p0 p1
            have q0 := HGB.out.nk.cell 0
            have q1 := HGB.out.nk.cell 1
            simp [RtM.cells] at q0 q1
            simp only [RtM.val, RtM.cells] at HI2
          
            clear hbB HGA
            go_wp2_with fail
            go_at_call 40
            refine HI2.out.mono ?_
            rintro e wC ⟨rfl, hbC⟩
            have HBf := hide (HGB.out.keep hbC).below
            clear hbC HGB HI2 p0 p1 q0 q1
            go_wp2
            go_ret
            exact ⟨rfl, HBf.out⟩
          rotate_right
          · intro t W hG hE _ K hK
            simp only [fill, Act.put, List.setIfInBounds_toArray, List.set_cons_zero, List.set_cons_succ] at hK ⊢
            rw [if_pos (by rfl)]
            obtain ⟨r, e9, h1, h2, h3⟩ := hE 9 (by omega)
            have o0 := hG.nk.cell 0
            have o1 := hG.nk.cell 1
            have f0 := hG.nk.frozen 0
            have f1 := hG.nk.frozen 1
            simp [RtM.cells] at o0 o1
            have hN := hide (And.intro (hG.putM h1 h3) h2)
            clear hG hE h1 h2 h3
            simp only [e9, RtM.val, RtM.cells] at hK ⊢
            go_simp
            exact hK undef _ ⟨r, hN.out⟩
          all_goals intro t W hG hp _ K hK
          all_goals simp only [fill, Act.put, List.setIfInBounds_toArray, List.set_cons_zero, List.set_cons_succ] at hK ⊢
          · have bN := hG.net
            have x0 := bN.cell 0
            have x1 := bN.cell 1
            have x2 := bN.cell 2
            have x3 := bN.cell 3
            have x4 := bN.cell 4
            simp [NetM.cells, Mat.val] at x0 x1 x2 x3 x4
            rw [if_pos (by rfl)]
            go_simp
            exact hK _ W hG rfl (fun _ _ _ h => h)
          · rw [if_pos (by rfl)]
            go_simp
            exact hK _ W hG rfl (fun _ _ _ h => h)
          · rw [if_pos (by rfl)]
            go_simp
            exact hK _ W hG rfl (fun _ _ _ h => h)
          · have e2 := pbE_get (hp 2 (by decide)) (by decide) rfl
            have x4 := hG.net.cell 4
            simp [NetM.cells] at x4
            rw [Hla.out] at x4
            simp only [e2] at hK ⊢
            rw [if_pos (by rfl)]
            go_simp
            exact hK _ W hG rfl (fun _ _ _ h => h)
          · rw [if_pos (by rfl)]
            go_simp
            exact hK _ W hG rfl (fun _ _ _ h => h)
          · have e3 := pbE_get (hp 3 (by decide)) (by decide) rfl
            have e4 := pbE_get (hp 4 (by decide)) (by decide) rfl
            have hli := Hli.out
            simp only [e3, e4] at hK ⊢
            rw [if_pos (by rfl)]
            go_simp
            exact hK _ W hG rfl (fun _ _ _ h => h)
          · have e5 := pbE_get (hp 5 (by decide)) (by decide) rfl
            simp only [e5] at hK ⊢
            rw [if_pos (by rfl)]
            go_simp
            exact hK _ W hG rfl (fun _ _ _ h => h)
          · have e6 := pbE_get (hp 6 (by decide)) (by decide) rfl
            have c2 := HEc.out W hG.below
            simp only [e6] at hK ⊢
            rw [if_pos (by rfl)]
            go_simp
            exact hK _ W hG rfl (fun _ _ _ h => h)
          · have y0 := hG.one.cell 0
            have y1 := hG.one.cell 1
            simp [RtM.cells] at y0 y1
            rw [if_pos (by rfl)]
            go_simp
            exact hK _ W hG rfl (fun _ _ _ h => h)
          · have e0 := pbE_get (hp 0 (by decide)) (by decide) rfl
            have e1 := pbE_get (hp 1 (by decide)) (by decide) rfl
            have e7 := pbE_get (hp 7 (by decide)) (by decide) rfl
            have e8 := pbE_get (hp 8 (by decide)) (by decide) rfl
            simp only [NetM.val, NetM.cells, Mat.val] at e0
            simp only [RtM.val, RtM.cells] at e8
            simp only [e0, e1, e7, e8] at hK ⊢
            rw [if_pos (by rfl)]
            go_simp
            go_at_call 38
            refine (HEo.out W hG.below).mono ?_
            rintro e W' ⟨⟨r', rfl, hm⟩, hb⟩
            go_simp
            have hlt1 := hG.bk.lt
            have hlt2 := hG.nk.lt
            exact hK _ W' (hG.keep hb) ⟨r', rfl, hm.mem, hm.same, fun h0 => by have := hm.own h0; omega⟩ (fun q u _ => pbE.keep hb q u)
        all_goals intro t W hG hp K hK
        all_goals simp only [fill, Act.put, List.setIfInBounds_toArray, List.set_cons_zero, List.set_cons_succ] at hK ⊢
        · have bN := hG.net
          have x0 := bN.cell 0
          have x1 := bN.cell 1
          have x2 := bN.cell 2
          have x3 := bN.cell 3
          have x4 := bN.cell 4
          simp [NetM.cells, Mat.val] at x0 x1 x2 x3 x4
          rw [if_pos (by rfl)]
          go_simp
          exact hK _ W hG rfl (fun _ _ _ h => h)
        · have y0 := hG.one.cell 0
          have y1 := hG.one.cell 1
          simp [RtM.cells] at y0 y1
          rw [if_pos (by rfl)]
          go_simp
          exact hK _ W hG rfl (fun _ _ _ h => h)
        · have e0 := valsE_get (hp 0 (by decide)) rfl
          have e1 := valsE_get (hp 1 (by decide)) rfl
          simp only [NetM.val, NetM.cells, Mat.val] at e0
          simp only [RtM.val, RtM.cells] at e1
          simp only [e0, e1] at hK ⊢
          rw [if_pos (by rfl)]
          go_simp
          go_at_call 35
          refine (HRa.out W hG.below).mono ?_
          rintro e W' ⟨rfl, hb⟩
          go_simp
          exact hK _ W' (hG.keep hb) rfl (fun _ _ _ h => h)
        · have e2 := valsE_get (hp 2 (by decide)) rfl
          simp only [e2] at hK ⊢
          rw [if_pos (by rfl)]
          go_simp
          exact hK _ W hG rfl (fun _ _ _ h => h)
        · have e3 := valsE_get (hp 3 (by decide)) rfl
          simp only [e3] at hK ⊢
          rw [if_pos (by rfl)]
          go_simp
          exact hK _ W hG rfl (fun _ _ _ h => h)
        · have e4 := valsE_get (hp 4 (by decide)) rfl
          have bN := hG.net
          have x0 := bN.cell 0
          have x1 := bN.cell 1
          have x2 := bN.cell 2
          have x3 := bN.cell 3
          have x4 := bN.cell 4
          simp [NetM.cells, Mat.val] at x0 x1 x2 x3 x4
          simp only [e4] at hK ⊢
          rw [if_pos (by rfl)]
          go_simp
          exact hK _ W hG rfl (fun _ _ _ h => h)
        · have e4 := valsE_get (hp 4 (by decide)) rfl
          have y0 := hG.one.cell 0
          have y1 := hG.one.cell 1
          simp [RtM.cells] at y0 y1
          simp only [e4] at hK ⊢
          rw [if_pos (by rfl)]
          go_simp
          exact hK _ W hG rfl (fun _ _ _ h => h)
        · have e4 := valsE_get (hp 4 (by decide)) rfl
          have e5 := valsE_get (hp 5 (by decide)) rfl
          have e6 := valsE_get (hp 6 (by decide)) rfl
          simp only [NetM.val, NetM.cells, Mat.val] at e5
          simp only [RtM.val, RtM.cells] at e6
          simp only [e4, e5, e6] at hK ⊢
          rw [if_pos (by rfl)]
          go_simp
          go_at_call 37
          refine (HVa.out W).mono ?_
          rintro e W' ⟨rfl, hb⟩
          go_simp
          exact hK _ W' (hG.keep hb) rfl (fun _ _ _ h => h)
        · have e4 := valsE_get (hp 4 (by decide)) rfl
          have e7 := valsE_get (hp 7 (by decide)) rfl
          simp only [e4, e7] at hK ⊢
          rw [if_pos (by rfl)]
          go_simp
          exact hK _ W hG rfl (fun _ _ _ h => h)
        · have e8 := valsE_get (hp 8 (by decide)) rfl
          simp only [e8] at hK ⊢
          rw [if_neg (by intro hh; exact absurd (show false = true from hh) (by decide))]
          exact hK undef W hG rfl (fun _ _ _ h => h)
        · have e8 := valsE_get (hp 8 (by decide)) rfl
          simp only [e8] at hK ⊢
          rw [if_neg (by intro hh; exact absurd (show false = true from hh) (by decide))]
          exact hK undef W hG rfl (fun _ _ _ h => h)
        · have e8 := valsE_get (hp 8 (by decide)) rfl
          simp only [e8] at hK ⊢
          rw [if_neg (by intro hh; exact absurd (show false = true from hh) (by decide))]
          exact hK undef W hG rfl (fun _ _ _ h => h)
        · have e8 := valsE_get (hp 8 (by decide)) rfl
          simp only [e8] at hK ⊢
          rw [if_neg (by intro hh; exact absurd (show false = true from hh) (by decide))]
          exact hK undef W hG rfl (fun _ _ _ h => h)
        · have e8 := valsE_get (hp 8 (by decide)) rfl
          simp only [e8] at hK ⊢
          rw [if_neg (by intro hh; exact absurd (show false = true from hh) (by decide))]
          exact hK undef W hG rfl (fun _ _ _ h => h)
        · have e8 := valsE_get (hp 8 (by decide)) rfl
          simp only [e8] at hK ⊢
          rw [if_neg (by intro hh; exact absurd (show false = true from hh) (by decide))]
          exact hK undef W hG rfl (fun _ _ _ h => h)
        · have e8 := valsE_get (hp 8 (by decide)) rfl
          simp only [e8] at hK ⊢
          rw [if_neg (by intro hh; exact absurd (show false = true from hh) (by decide))]
          exact hK undef W hG rfl (fun _ _ _ h => h)
        · have e8 := valsE_get (hp 8 (by decide)) rfl
          simp only [e8] at hK ⊢
          rw [if_neg (by intro hh; exact absurd (show false = true from hh) (by decide))]
          exact hK undef W hG rfl (fun _ _ _ h => h)
        · have e8 := valsE_get (hp 8 (by decide)) rfl
          simp only [e8] at hK ⊢
          rw [if_neg (by intro hh; exact absurd (show false = true from hh) (by decide))]
          exact hK undef W hG rfl (fun _ _ _ h => h)
        · have e8 := valsE_get (hp 8 (by decide)) rfl
          simp only [e8] at hK ⊢
          rw [if_neg (by intro hh; exact absurd (show false = true from hh) (by decide))]
          exact hK undef W hG rfl (fun _ _ _ h => h)
        · have e8 := valsE_get (hp 8 (by decide)) rfl
          simp only [e8] at hK ⊢
          rw [if_neg (by intro hh; exact absurd (show false = true from hh) (by decide))]
          exact hK undef W hG rfl (fun _ _ _ h => h)
        · have e4 := valsE_get (hp 4 (by decide)) rfl
          have e8 := valsE_get (hp 8 (by decide)) rfl
          have e19 := valsE_get (hp 19 (by decide)) rfl
          simp only [e4, e8, e19] at hK ⊢
          rw [if_pos (by rfl)]
          go_simp
          exact hK _ W hG rfl (fun _ _ _ h => h)
        · have e4 := valsE_get (hp 4 (by decide)) rfl
          have e20 := valsE_get (hp 20 (by decide)) rfl
          simp only [e4, e20] at hK ⊢
          rw [if_pos (by rfl)]
          go_simp
          exact hK _ W hG rfl (fun _ _ _ h => h)
        · have e21 := valsE_get (hp 21 (by decide)) rfl
          simp only [e21] at hK ⊢
          rw [if_pos (by rfl)]
          go_simp
          exact hK _ W hG rfl (fun _ _ _ h => h)
      | true =>
        have hl0 := (Net.right_iff.1 hra).some hva
        have Hbe : Hid (n.net.begR a.rt (n.T l) = (a.f 0 == n.T l)) := hide (by rw [Net.begR_at (n.T l) (fun _ => hl0), hva]; rfl)
        have Hpa : Hid (a.pa = some ⟨a.b, a.o, none⟩) := hide ((HIa.out w (Below.refl _ _)).ints.addr hl0)
        have Hl0i : Hid (0 < a.l) := hide hl0
        have HAc : Hid (∀ W, Below w.heap.size w W → W.cell? ⟨a.b, a.o, none⟩ = some (.int .i64 (a.f 0))) := hide (fun W hb => by have := (HIa.out W hb).ints.cell 0 hl0; rwa [Nat.add_zero] at this)
        rw [hva] at HVa
        cases hne0 : (a.f 0 != n.T l) with
        | true =>
          have he : (e1, e2) = (4, Rt.zero) := by rw [Hext3.out, if_neg (by rw [Hbe.out]; intro hh; simp at hne0; exact hne0 (by simpa using hh.2))]
          obtain ⟨rfl, rfl⟩ := Prod.mk.inj he
          obtain ⟨ne, hnee⟩ : ∃ ne, ne = true := ⟨_, rfl⟩
          have Hne : Hid ((a.f 0 != n.T l) = ne) := hide (by rw [hnee]; exact hne0)
          have Hnee := hide hnee
          clear Hext3 he Hbe hne0 hl0 hnee
          go_wp2_with fail
          rw [← HW11.out]
          try simp only [Hd1.out, Hd2.out, Bool.false_or]
          clear x0 x1 x2 x3 x4 cF hfr' hlneg hlge hli hlen hll
          refine wp_region_only (fun W => PBG w n a b X Y B zeroR xb yb bb mb W) (valsE [n.val, a.val, .bool true, .bool false, .bool false, n.val, a.val, .bool true, .bool true, .pointer (some ⟨w.heap.size + 1, 1, none⟩), .slice (some ⟨a.b, a.o, none⟩) a.l a.q, .pointer (some ⟨a.b, a.o, none⟩), .int .i64 (a.f 0), .pointer (some ⟨w.heap.size, 4, none⟩), .slice (some ⟨n.lb, n.lo, none⟩) n.ln n.lc, .int .i64 (l : Int), .pointer (some ⟨n.lb, n.lo + l * 3, none⟩), .pointer (some ⟨n.lb, n.lo + l * 3 + 1, none⟩), .int .i64 (n.T l), .bool ne, .bool ne, .bool ne, .bool ne]) (by kernel_rfl) (by kernel_rfl) (by kernel_rfl) (HG10.out.keep (below_drewN (Below.refl _ _) 1)) ⟨?_, ?_, ?_, ?_, ?_, ?_, ?_, ?_, ?_, ?_, ?_, ?_, ?_, ?_, ?_, ?_, ?_, ?_, ?_, ?_, ?_, ?_, ?_, trivial⟩ ?_
          rotate_right
          · intro t W hG hE
            have e22 := valsE_get (hE 22 (by decide)) rfl
            have HG' := hide hG
            clear hE hG
            simp only [fill, Act.put, List.setIfInBounds_toArray, List.set_cons_zero, List.set_cons_succ, e22]
            clear e22
            obtain rfl := Hnee.out
            clear HG10
            clear HBo HEo HRa HRb HVa
            go_wp2_with fail
            go_at_call 39
            refine (pathBegun_any _).mono ?_
            rintro e wA ⟨rfl, hbA⟩
            have HGA := hide (HG'.out.keep hbA)
            have HI1 := hide (routeIs_yes X B 0 wA HGA.out.xi HGA.out.bi (fun _ => HX.out.trans HBx.out.symm) (fun h => absurd rfl h))
            have p0 := HGA.out.xk.cell 0
            have p1 := HGA.out.xk.cell 1
            simp [RtM.cells] at p0 p1
            have q0 := HGA.out.bk.cell 0
            have q1 := HGA.out.bk.cell 1
            simp [RtM.cells] at q0 q1
            simp only [RtM.val, RtM.cells] at HI1
            
            clear hbA HG'
            go_wp2_with fail
            go_at_call 40
            refine HI1.out.mono ?_
            rintro e wB ⟨rfl, hbB⟩
            have HGB := hide (HGA.out.keep hbB)
            have HI2 := hide (routeIs_yes Y zeroR 4 wB HGB.out.yi HGB.out.mi (fun h => absurd h (by decide)) (fun _ => HY.out))
            clear p0 p1 q0 q1 HI1
            have p0 := HGB.out.yk.cell 0
            have p1 := HGB.out.yk.cell 1
            simp [RtM.cells] at p0 p1
            have q0 := HGB.out.nk.cell 0
            have q1 := HGB.out.nk.cell 1
            simp [RtM.cells] at q0 q1
            simp only [RtM.val, RtM.cells] at HI2
            simp only [zeroR] at HI2 q0 q1
            clear hbB HGA
            go_wp2_with fail
            go_at_call 40
            refine HI2.out.mono ?_
            rintro e wC ⟨rfl, hbC⟩
            have HBf := hide (HGB.out.keep hbC).below
            clear hbC HGB HI2 p0 p1 q0 q1
            go_wp2
            go_ret
            exact ⟨rfl, HBf.out⟩
          all_goals intro t W hG hp K hK
          all_goals simp only [fill, Act.put, List.setIfInBounds_toArray, List.set_cons_zero, List.set_cons_succ] at hK ⊢
          · have bN := hG.net
            have x0 := bN.cell 0
            have x1 := bN.cell 1
            have x2 := bN.cell 2
            have x3 := bN.cell 3
            have x4 := bN.cell 4
            simp [NetM.cells, Mat.val] at x0 x1 x2 x3 x4
            rw [if_pos (by rfl)]
            go_simp
            exact hK _ W hG rfl (fun _ _ _ h => h)
          · have y0 := hG.one.cell 0
            have y1 := hG.one.cell 1
            simp [RtM.cells] at y0 y1
            rw [if_pos (by rfl)]
            go_simp
            exact hK _ W hG rfl (fun _ _ _ h => h)
          · have e0 := valsE_get (hp 0 (by decide)) rfl
            have e1 := valsE_get (hp 1 (by decide)) rfl
            simp only [NetM.val, NetM.cells, Mat.val] at e0
            simp only [RtM.val, RtM.cells] at e1
            simp only [e0, e1] at hK ⊢
            rw [if_pos (by rfl)]
            go_simp
            go_at_call 35
            refine (HRa.out W hG.below).mono ?_
            rintro e W' ⟨rfl, hb⟩
            go_simp
            exact hK _ W' (hG.keep hb) rfl (fun _ _ _ h => h)
          · have e2 := valsE_get (hp 2 (by decide)) rfl
            simp only [e2] at hK ⊢
            rw [if_pos (by rfl)]
            go_simp
            exact hK _ W hG rfl (fun _ _ _ h => h)
          · have e3 := valsE_get (hp 3 (by decide)) rfl
            simp only [e3] at hK ⊢
            rw [if_pos (by rfl)]
            go_simp
            exact hK _ W hG rfl (fun _ _ _ h => h)
          · have e4 := valsE_get (hp 4 (by decide)) rfl
            have bN := hG.net
            have x0 := bN.cell 0
            have x1 := bN.cell 1
            have x2 := bN.cell 2
            have x3 := bN.cell 3
            have x4 := bN.cell 4
            simp [NetM.cells, Mat.val] at x0 x1 x2 x3 x4
            simp only [e4] at hK ⊢
            rw [if_pos (by rfl)]
            go_simp
            exact hK _ W hG rfl (fun _ _ _ h => h)
          · have e4 := valsE_get (hp 4 (by decide)) rfl
            have y0 := hG.one.cell 0
            have y1 := hG.one.cell 1
            simp [RtM.cells] at y0 y1
            simp only [e4] at hK ⊢
            rw [if_pos (by rfl)]
            go_simp
            exact hK _ W hG rfl (fun _ _ _ h => h)
          · have e4 := valsE_get (hp 4 (by decide)) rfl
            have e5 := valsE_get (hp 5 (by decide)) rfl
            have e6 := valsE_get (hp 6 (by decide)) rfl
            simp only [NetM.val, NetM.cells, Mat.val] at e5
            simp only [RtM.val, RtM.cells] at e6
            simp only [e4, e5, e6] at hK ⊢
            rw [if_pos (by rfl)]
            go_simp
            go_at_call 37
            refine (HVa.out W).mono ?_
            rintro e W' ⟨rfl, hb⟩
            go_simp
            exact hK _ W' (hG.keep hb) rfl (fun _ _ _ h => h)
          · have e4 := valsE_get (hp 4 (by decide)) rfl
            have e7 := valsE_get (hp 7 (by decide)) rfl
            simp only [e4, e7] at hK ⊢
            rw [if_pos (by rfl)]
            go_simp
            exact hK _ W hG rfl (fun _ _ _ h => h)
          · have e8 := valsE_get (hp 8 (by decide)) rfl
            simp only [e8] at hK ⊢
            rw [if_pos (by rfl)]
            go_simp
            exact hK _ W hG rfl (fun _ _ _ h => h)
          · have e8 := valsE_get (hp 8 (by decide)) rfl
            have e9 := valsE_get (hp 9 (by decide)) rfl
            have y1 := hG.one.cell 1
            simp [RtM.cells] at y1
            rw [Hpa.out] at y1
            simp only [e8, e9] at hK ⊢
            rw [if_pos (by rfl)]
            go_simp
            exact hK _ W hG rfl (fun _ _ _ h => h)
          · have e8 := valsE_get (hp 8 (by decide)) rfl
            have e10 := valsE_get (hp 10 (by decide)) rfl
            have hl0i := Hl0i.out
            simp only [e8, e10] at hK ⊢
            rw [if_pos (by rfl)]
            go_simp
            exact hK _ W hG rfl (fun _ _ _ h => h)
          · have e8 := valsE_get (hp 8 (by decide)) rfl
            have e11 := valsE_get (hp 11 (by decide)) rfl
            have c1 := HAc.out W hG.below
            simp only [e8, e11] at hK ⊢
            rw [if_pos (by rfl)]
            go_simp
            exact hK _ W hG rfl (fun _ _ _ h => h)
          · have e8 := valsE_get (hp 8 (by decide)) rfl
            simp only [e8] at hK ⊢
            rw [if_pos (by rfl)]
            go_simp
            exact hK _ W hG rfl (fun _ _ _ h => h)
          · have e8 := valsE_get (hp 8 (by decide)) rfl
            have e13 := valsE_get (hp 13 (by decide)) rfl
            have x4 := hG.net.cell 4
            simp [NetM.cells] at x4
            rw [Hla.out] at x4
            simp only [e8, e13] at hK ⊢
            rw [if_pos (by rfl)]
            go_simp
            exact hK _ W hG rfl (fun _ _ _ h => h)
          · have e8 := valsE_get (hp 8 (by decide)) rfl
            simp only [e8] at hK ⊢
            rw [if_pos (by rfl)]
            go_simp
            exact hK _ W hG rfl (fun _ _ _ h => h)
          · have e8 := valsE_get (hp 8 (by decide)) rfl
            have e14 := valsE_get (hp 14 (by decide)) rfl
            have e15 := valsE_get (hp 15 (by decide)) rfl
            have hli := Hli.out
            simp only [e8, e14, e15] at hK ⊢
            rw [if_pos (by rfl)]
            go_simp
            exact hK _ W hG rfl (fun _ _ _ h => h)
          · have e8 := valsE_get (hp 8 (by decide)) rfl
            have e16 := valsE_get (hp 16 (by decide)) rfl
            simp only [e8, e16] at hK ⊢
            rw [if_pos (by rfl)]
            go_simp
            exact hK _ W hG rfl (fun _ _ _ h => h)
          · have e8 := valsE_get (hp 8 (by decide)) rfl
            have e17 := valsE_get (hp 17 (by decide)) rfl
            have c2 := HTc.out W hG.below
            simp only [e8, e17] at hK ⊢
            rw [if_pos (by rfl)]
            go_simp
            exact hK _ W hG rfl (fun _ _ _ h => h)
          · have e8 := valsE_get (hp 8 (by decide)) rfl
            have e12 := valsE_get (hp 12 (by decide)) rfl
            have e18 := valsE_get (hp 18 (by decide)) rfl
            have hne := Hne.out
            simp only [e8, e12, e18] at hK ⊢
            rw [if_pos (by rfl)]
            go_simp
            exact hK _ W hG rfl (fun _ _ _ h => h)
          · have e4 := valsE_get (hp 4 (by decide)) rfl
            have e8 := valsE_get (hp 8 (by decide)) rfl
            have e19 := valsE_get (hp 19 (by decide)) rfl
            simp only [e4, e8, e19] at hK ⊢
            rw [if_pos (by rfl)]
            go_simp
            exact hK _ W hG rfl (fun _ _ _ h => h)
          · have e4 := valsE_get (hp 4 (by decide)) rfl
            have e20 := valsE_get (hp 20 (by decide)) rfl
            simp only [e4, e20] at hK ⊢
            rw [if_pos (by rfl)]
            go_simp
            exact hK _ W hG rfl (fun _ _ _ h => h)
          · have e21 := valsE_get (hp 21 (by decide)) rfl
            simp only [e21] at hK ⊢
            rw [if_pos (by rfl)]
            go_simp
            exact hK _ W hG rfl (fun _ _ _ h => h)
        | false =>
          have he : (e1, e2) = (0, n.net.ext fr en a.rt) := by rw [Hext3.out, if_pos ⟨hra, by rw [Hbe.out]; simpa using hne0⟩]
          obtain ⟨rfl, rfl⟩ := Prod.mk.inj he
          have HEo := hide (fun W (hb : Below w.heap.size w W) => HEo.out en hel (by trivial) hra W hb)
          generalize n.net.ext fr en a.rt = ex at *
          obtain ⟨ne, hnee⟩ : ∃ ne, ne = false := ⟨_, rfl⟩
          have Hne : Hid ((a.f 0 != n.T l) = ne) := hide (by rw [hnee]; exact hne0)
          have Hnee := hide hnee
          clear Hext3 he Hbe hne0 hl0 hnee
          go_wp2_with fail
          rw [← HW11.out]
          try simp only [Hd1.out, Hd2.out, Bool.false_or]
          clear x0 x1 x2 x3 x4 cF hfr' hlneg hlge hli hlen hll
          refine wp_region_only (fun W => PBG w n a b X Y B zeroR xb yb bb mb W) (valsE [n.val, a.val, .bool true, .bool false, .bool false, n.val, a.val, .bool true, .bool true, .pointer (some ⟨w.heap.size + 1, 1, none⟩), .slice (some ⟨a.b, a.o, none⟩) a.l a.q, .pointer (some ⟨a.b, a.o, none⟩), .int .i64 (a.f 0), .pointer (some ⟨w.heap.size, 4, none⟩), .slice (some ⟨n.lb, n.lo, none⟩) n.ln n.lc, .int .i64 (l : Int), .pointer (some ⟨n.lb, n.lo + l * 3, none⟩), .pointer (some ⟨n.lb, n.lo + l * 3 + 1, none⟩), .int .i64 (n.T l), .bool ne, .bool ne, .bool ne, .bool ne]) (by kernel_rfl) (by kernel_rfl) (by kernel_rfl) (HG10.out.keep (below_drewN (Below.refl _ _) 1)) ⟨?_, ?_, ?_, ?_, ?_, ?_, ?_, ?_, ?_, ?_, ?_, ?_, ?_, ?_, ?_, ?_, ?_, ?_, ?_, ?_, ?_, ?_, ?_, trivial⟩ ?_
          rotate_right
          · intro t W hG hE
            have e22 := valsE_get (hE 22 (by decide)) rfl
            have HG' := hide hG
            clear hE hG
            simp only [fill, Act.put, List.setIfInBounds_toArray, List.set_cons_zero, List.set_cons_succ, e22]
            clear e22
            obtain rfl := Hnee.out
            clear HG10
            go_wp2_with fail
            refine wp_region_last 10 _ (fun W => PBG w n a b X Y B zeroR xb yb bb mb W) (pbE [n.val, .int .i64 fr, .pointer (some ⟨w.heap.size, 4, none⟩), .slice (some ⟨n.lb, n.lo, none⟩) n.ln n.lc, .int .i64 (l : Int), .pointer (some ⟨n.lb, n.lo + l * 3, none⟩), .pointer (some ⟨n.lb, n.lo + l * 3 + 2, none⟩), .int .i64 (en : Int), a.val] ex bb mb) (fun _ W => ∃ M : RtM, PBG w n a b X Y B M xb yb bb mb W ∧ M.rt = ex) (fun _ _ _ => True) (by kernel_rfl) (by kernel_rfl) (by kernel_rfl) (by kernel_rfl) (by kernel_rfl) rfl (HG'.out.keep (below_drewN (Below.refl _ _) 1)) ⟨?_, ?_, ?_, ?_, ?_, ?_, ?_, ?_, ?_, ?_, trivial⟩ ?_ trivial ?_
            rotate_right
            · intro t W hG _
              simp only [fill, Act.put, List.setIfInBounds_toArray, List.set_cons_zero, List.set_cons_succ]
              obtain ⟨M, hM, hMx⟩ := hG
              have HM := hide hM
              have HMx := hide hMx
              clear hM hMx HG'
              clear HBo HEo HRa HRb HVa
              go_wp2_with fail
              go_at_call 39
              refine (pathBegun_any _).mono ?_
              rintro e wA ⟨rfl, hbA⟩
              have HGA := hide (HM.out.keep hbA)
              have HI1 := hide (routeIs_yes X B 0 wA HGA.out.xi HGA.out.bi (fun _ => HX.out.trans HBx.out.symm) (fun h => absurd rfl h))
              have p0 := HGA.out.xk.cell 0
              have p1 := HGA.out.xk.cell 1
              simp [RtM.cells] at p0 p1
              have q0 := HGA.out.bk.cell 0
              have q1 := HGA.out.bk.cell 1
              simp [RtM.cells] at q0 q1
              simp only [RtM.val, RtM.cells] at HI1
            
              clear hbA HM
              go_wp2_with fail
              go_at_call 40
              refine HI1.out.mono ?_
              rintro e wB ⟨rfl, hbB⟩
              have HGB := hide (HGA.out.keep hbB)
              have HI2 := hide (routeIs_yes Y M 0 wB HGB.out.yi HGB.out.mi (fun _ => HY.out.trans HMx.out.symm) (fun h => absurd rfl h))
              clear p0 p1 q0 q1 HI1
              have p0 := HGB.out.yk.cell 0
              have p1 := HGB.out.yk.cell 1
              simp [RtM.cells] at p0 p1
              have q0 := HGB.out.nk.cell 0
              have q1 := HGB.out.nk.cell 1
              simp [RtM.cells] at q0 q1
              simp only [RtM.val, RtM.cells] at HI2
            
              clear hbB HGA
              go_wp2_with fail
              go_at_call 40
              refine HI2.out.mono ?_
              rintro e wC ⟨rfl, hbC⟩
              have HBf := hide (HGB.out.keep hbC).below
              clear hbC HGB HI2 p0 p1 q0 q1
              go_wp2
              go_ret
              exact ⟨rfl, HBf.out⟩
            rotate_right
            · intro t W hG hE _ K hK
              simp only [fill, Act.put, List.setIfInBounds_toArray, List.set_cons_zero, List.set_cons_succ] at hK ⊢
              rw [if_pos (by rfl)]
              obtain ⟨r, e9, h1, h2, h3⟩ := hE 9 (by omega)
              have o0 := hG.nk.cell 0
              have o1 := hG.nk.cell 1
              have f0 := hG.nk.frozen 0
              have f1 := hG.nk.frozen 1
              simp [RtM.cells] at o0 o1
              have hN := hide (And.intro (hG.putM h1 h3) h2)
              clear hG hE h1 h2 h3
              simp only [e9, RtM.val, RtM.cells] at hK ⊢
              go_simp
              exact hK undef _ ⟨r, hN.out⟩
            all_goals intro t W hG hp _ K hK
            all_goals simp only [fill, Act.put, List.setIfInBounds_toArray, List.set_cons_zero, List.set_cons_succ] at hK ⊢
            · have bN := hG.net
              have x0 := bN.cell 0
              have x1 := bN.cell 1
              have x2 := bN.cell 2
              have x3 := bN.cell 3
              have x4 := bN.cell 4
              simp [NetM.cells, Mat.val] at x0 x1 x2 x3 x4
              rw [if_pos (by rfl)]
              go_simp
              exact hK _ W hG rfl (fun _ _ _ h => h)
            · rw [if_pos (by rfl)]
              go_simp
              exact hK _ W hG rfl (fun _ _ _ h => h)
            · rw [if_pos (by rfl)]
              go_simp
              exact hK _ W hG rfl (fun _ _ _ h => h)
            · have e2 := pbE_get (hp 2 (by decide)) (by decide) rfl
              have x4 := hG.net.cell 4
              simp [NetM.cells] at x4
              rw [Hla.out] at x4
              simp only [e2] at hK ⊢
              rw [if_pos (by rfl)]
              go_simp
              exact hK _ W hG rfl (fun _ _ _ h => h)
            · rw [if_pos (by rfl)]
              go_simp
              exact hK _ W hG rfl (fun _ _ _ h => h)
            · have e3 := pbE_get (hp 3 (by decide)) (by decide) rfl
              have e4 := pbE_get (hp 4 (by decide)) (by decide) rfl
              have hli := Hli.out
              simp only [e3, e4] at hK ⊢
              rw [if_pos (by rfl)]
              go_simp
              exact hK _ W hG rfl (fun _ _ _ h => h)
            · have e5 := pbE_get (hp 5 (by decide)) (by decide) rfl
              simp only [e5] at hK ⊢
              rw [if_pos (by rfl)]
              go_simp
              exact hK _ W hG rfl (fun _ _ _ h => h)
            · have e6 := pbE_get (hp 6 (by decide)) (by decide) rfl
              have c2 := HEc.out W hG.below
              simp only [e6] at hK ⊢
              rw [if_pos (by rfl)]
              go_simp
              exact hK _ W hG rfl (fun _ _ _ h => h)
            · have y0 := hG.one.cell 0
              have y1 := hG.one.cell 1
              simp [RtM.cells] at y0 y1
              rw [if_pos (by rfl)]
              go_simp
              exact hK _ W hG rfl (fun _ _ _ h => h)
            · have e0 := pbE_get (hp 0 (by decide)) (by decide) rfl
              have e1 := pbE_get (hp 1 (by decide)) (by decide) rfl
              have e7 := pbE_get (hp 7 (by decide)) (by decide) rfl
              have e8 := pbE_get (hp 8 (by decide)) (by decide) rfl
              simp only [NetM.val, NetM.cells, Mat.val] at e0
              simp only [RtM.val, RtM.cells] at e8
              simp only [e0, e1, e7, e8] at hK ⊢
              rw [if_pos (by rfl)]
              go_simp
              go_at_call 38
              refine (HEo.out W hG.below).mono ?_
              rintro e W' ⟨⟨r', rfl, hm⟩, hb⟩
              go_simp
              have hlt1 := hG.bk.lt
              have hlt2 := hG.nk.lt
              exact hK _ W' (hG.keep hb) ⟨r', rfl, hm.mem, hm.same, fun h0 => by have := hm.own h0; omega⟩ (fun q u _ => pbE.keep hb q u)
          all_goals intro t W hG hp K hK
          all_goals simp only [fill, Act.put, List.setIfInBounds_toArray, List.set_cons_zero, List.set_cons_succ] at hK ⊢
          · have bN := hG.net
            have x0 := bN.cell 0
            have x1 := bN.cell 1
            have x2 := bN.cell 2
            have x3 := bN.cell 3
            have x4 := bN.cell 4
            simp [NetM.cells, Mat.val] at x0 x1 x2 x3 x4
            rw [if_pos (by rfl)]
            go_simp
            exact hK _ W hG rfl (fun _ _ _ h => h)
          · have y0 := hG.one.cell 0
            have y1 := hG.one.cell 1
            simp [RtM.cells] at y0 y1
            rw [if_pos (by rfl)]
            go_simp
            exact hK _ W hG rfl (fun _ _ _ h => h)
          · have e0 := valsE_get (hp 0 (by decide)) rfl
            have e1 := valsE_get (hp 1 (by decide)) rfl
            simp only [NetM.val, NetM.cells, Mat.val] at e0
            simp only [RtM.val, RtM.cells] at e1
            simp only [e0, e1] at hK ⊢
            rw [if_pos (by rfl)]
            go_simp
            go_at_call 35
            refine (HRa.out W hG.below).mono ?_
            rintro e W' ⟨rfl, hb⟩
            go_simp
            exact hK _ W' (hG.keep hb) rfl (fun _ _ _ h => h)
          · have e2 := valsE_get (hp 2 (by decide)) rfl
            simp only [e2] at hK ⊢
            rw [if_pos (by rfl)]
            go_simp
            exact hK _ W hG rfl (fun _ _ _ h => h)
          · have e3 := valsE_get (hp 3 (by decide)) rfl
            simp only [e3] at hK ⊢
            rw [if_pos (by rfl)]
            go_simp
            exact hK _ W hG rfl (fun _ _ _ h => h)
          · have e4 := valsE_get (hp 4 (by decide)) rfl
            have bN := hG.net
            have x0 := bN.cell 0
            have x1 := bN.cell 1
            have x2 := bN.cell 2
            have x3 := bN.cell 3
            have x4 := bN.cell 4
            simp [NetM.cells, Mat.val] at x0 x1 x2 x3 x4
            simp only [e4] at hK ⊢
            rw [if_pos (by rfl)]
            go_simp
            exact hK _ W hG rfl (fun _ _ _ h => h)
          · have e4 := valsE_get (hp 4 (by decide)) rfl
            have y0 := hG.one.cell 0
            have y1 := hG.one.cell 1
            simp [RtM.cells] at y0 y1
            simp only [e4] at hK ⊢
            rw [if_pos (by rfl)]
            go_simp
            exact hK _ W hG rfl (fun _ _ _ h => h)
          · have e4 := valsE_get (hp 4 (by decide)) rfl
            have e5 := valsE_get (hp 5 (by decide)) rfl
            have e6 := valsE_get (hp 6 (by decide)) rfl
            simp only [NetM.val, NetM.cells, Mat.val] at e5
            simp only [RtM.val, RtM.cells] at e6
            simp only [e4, e5, e6] at hK ⊢
            rw [if_pos (by rfl)]
            go_simp
            go_at_call 37
            refine (HVa.out W).mono ?_
            rintro e W' ⟨rfl, hb⟩
            go_simp
            exact hK _ W' (hG.keep hb) rfl (fun _ _ _ h => h)
          · have e4 := valsE_get (hp 4 (by decide)) rfl
            have e7 := valsE_get (hp 7 (by decide)) rfl
            simp only [e4, e7] at hK ⊢
            rw [if_pos (by rfl)]
            go_simp
            exact hK _ W hG rfl (fun _ _ _ h => h)
          · have e8 := valsE_get (hp 8 (by decide)) rfl
            simp only [e8] at hK ⊢
            rw [if_pos (by rfl)]
            go_simp
            exact hK _ W hG rfl (fun _ _ _ h => h)
          · have e8 := valsE_get (hp 8 (by decide)) rfl
            have e9 := valsE_get (hp 9 (by decide)) rfl
            have y1 := hG.one.cell 1
            simp [RtM.cells] at y1
            rw [Hpa.out] at y1
            simp only [e8, e9] at hK ⊢
            rw [if_pos (by rfl)]
            go_simp
            exact hK _ W hG rfl (fun _ _ _ h => h)
          · have e8 := valsE_get (hp 8 (by decide)) rfl
            have e10 := valsE_get (hp 10 (by decide)) rfl
            have hl0i := Hl0i.out
            simp only [e8, e10] at hK ⊢
            rw [if_pos (by rfl)]
            go_simp
            exact hK _ W hG rfl (fun _ _ _ h => h)
          · have e8 := valsE_get (hp 8 (by decide)) rfl
            have e11 := valsE_get (hp 11 (by decide)) rfl
            have c1 := HAc.out W hG.below
            simp only [e8, e11] at hK ⊢
            rw [if_pos (by rfl)]
            go_simp
            exact hK _ W hG rfl (fun _ _ _ h => h)
          · have e8 := valsE_get (hp 8 (by decide)) rfl
            simp only [e8] at hK ⊢
            rw [if_pos (by rfl)]
            go_simp
            exact hK _ W hG rfl (fun _ _ _ h => h)
          · have e8 := valsE_get (hp 8 (by decide)) rfl
            have e13 := valsE_get (hp 13 (by decide)) rfl
            have x4 := hG.net.cell 4
            simp [NetM.cells] at x4
            rw [Hla.out] at x4
            simp only [e8, e13] at hK ⊢
            rw [if_pos (by rfl)]
            go_simp
            exact hK _ W hG rfl (fun _ _ _ h => h)
          · have e8 := valsE_get (hp 8 (by decide)) rfl
            simp only [e8] at hK ⊢
            rw [if_pos (by rfl)]
            go_simp
            exact hK _ W hG rfl (fun _ _ _ h => h)
          · have e8 := valsE_get (hp 8 (by decide)) rfl
            have e14 := valsE_get (hp 14 (by decide)) rfl
            have e15 := valsE_get (hp 15 (by decide)) rfl
            have hli := Hli.out
            simp only [e8, e14, e15] at hK ⊢
            rw [if_pos (by rfl)]
            go_simp
            exact hK _ W hG rfl (fun _ _ _ h => h)
          · have e8 := valsE_get (hp 8 (by decide)) rfl
            have e16 := valsE_get (hp 16 (by decide)) rfl
            simp only [e8, e16] at hK ⊢
            rw [if_pos (by rfl)]
            go_simp
            exact hK _ W hG rfl (fun _ _ _ h => h)
          · have e8 := valsE_get (hp 8 (by decide)) rfl
            have e17 := valsE_get (hp 17 (by decide)) rfl
            have c2 := HTc.out W hG.below
            simp only [e8, e17] at hK ⊢
            rw [if_pos (by rfl)]
            go_simp
            exact hK _ W hG rfl (fun _ _ _ h => h)
          · have e8 := valsE_get (hp 8 (by decide)) rfl
            have e12 := valsE_get (hp 12 (by decide)) rfl
            have e18 := valsE_get (hp 18 (by decide)) rfl
            have hne := Hne.out
            simp only [e8, e12, e18] at hK ⊢
            rw [if_pos (by rfl)]
            go_simp
            exact hK _ W hG rfl (fun _ _ _ h => h)
          · have e4 := valsE_get (hp 4 (by decide)) rfl
            have e8 := valsE_get (hp 8 (by decide)) rfl
            have e19 := valsE_get (hp 19 (by decide)) rfl
            simp only [e4, e8, e19] at hK ⊢
            rw [if_pos (by rfl)]
            go_simp
            exact hK _ W hG rfl (fun _ _ _ h => h)
          · have e4 := valsE_get (hp 4 (by decide)) rfl
            have e20 := valsE_get (hp 20 (by decide)) rfl
            simp only [e4, e20] at hK ⊢
            rw [if_pos (by rfl)]
            go_simp
            exact hK _ W hG rfl (fun _ _ _ h => h)
          · have e21 := valsE_get (hp 21 (by decide)) rfl
            simp only [e21] at hK ⊢
            rw [if_pos (by rfl)]
            go_simp
            exact hK _ W hG rfl (fun _ _ _ h => h)

end Go.Proofs.Ytjhkadffaephmab
