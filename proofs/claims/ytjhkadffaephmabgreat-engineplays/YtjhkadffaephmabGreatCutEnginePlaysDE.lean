/-
  Our own texts, bundled: a claim holds few files.
-/
import Derived.Test.YtjhkadffaephmabGreatCutEnginePlaysDA
import Derived.Test.YtjhkadffaephmabGreatCutEnginePlaysDB
import Derived.Test.YtjhkadffaephmabGreatCutEnginePlaysDC
import Derived.Test.YtjhkadffaephmabGreatCutEnginePlaysDD
import Derived.Test.YtjhkadffaephmabGreatCutEnginePlaysAF
import Derived.Test.YtjhkadffaephmabGreatCutEnginePlaysAC
import Derived.SizedLaws
import Derived.Test.YtjhkadffaephmabGreatCutEnginePlaysAD
/-
 EnginePlays.
-/
namespace Go.Proofs.YtjhkadffaephmabGreat
set_option maxRecDepth 100000
open Go.RowKit

theorem EvsM.In.grown {l : EvsM} {w w' : World} (h : l.In w.heap.size w) (hb : Below w.heap.size w w') : l.In w'.heap.size w' := by
 have h2 := h.below hb (Nat.le_refl _)
 exact ⟨h2.ea, fun h0 => Nat.lt_of_lt_of_le (h2.eb h0) hb.size, h2.c0, h2.c1, h2.c2, h2.c3, h2.c4, fun i hi => (h2.v i hi).mono hb.size, h2.len⟩
theorem engineIs_zero (m : EngM) (hm : m = zeroM) (e : Int) (w : World) (he : e ≠ 0) :
  Calls Tryz.prog 13 #[.agg #[.slice m.rs.ga m.rs.gn m.rs.gc, .slice m.bag.ba m.bag.bn m.bag.bc], .int .i64 e, .int .i64 e, .agg #[.slice none 0 0, .slice none 0 0]] w fun r w' => r = .returned (.bool true) ∧ Below w.heap.size w w' := by
 subst hm
 exact engineIs_none e zeroM w he
/-- The boxes of EnginePlays. -/
structure PG (w : World) (n : NetM) (x my mz : EngM) (qy qz : Nat) (W : World) : Prop where
 below : Below w.heap.size w W
 bn : Blk W w.heap.size n.cells 27
 bx : Blk W (w.heap.size + 1) x.cells 31
 yy : Blk W qy my.cells 31
 zz : Blk W qz mz.cells 31
 hy : my.In W.heap.size W
 hz : mz.In W.heap.size W
theorem PG.keep {w : World} {n : NetM} {x my mz : EngM} {qy qz : Nat} {W W' : World} (h : PG w n x my mz qy qz W) (hb : Below W.heap.size W W') : PG w n x my mz qy qz W' :=
 ⟨h.below.trans (hb.mono h.below.size), h.bn.below hb h.bn.lt, h.bx.below hb h.bx.lt, h.yy.below hb h.yy.lt, h.zz.below hb h.zz.lt, h.hy.grown hb, h.hz.grown hb⟩
theorem CkAns.clear {w w0 : World} {n : NetM} {x m : EngM} {W : World} (h : CkAns w n x m W) (hx : x.In w0.heap.size w0) {q : Nat} (hq : w0.heap.size ≤ q) {a a' : Option Addr} {l c l' c' : Nat} (hb : Blk w q #[.slice a l c, .slice a' l' c'] 31) : m.Clear q := by
 rcases h.src with e | e
 ·rw [e]; exact hx.clear hq
 ·exact e q hb.lt ⟨_, _, _, _, _, _, hb⟩

set_option maxHeartbeats 8000000 in
theorem enginePlays_any (n : NetM) (x : EngM) (l : EvsM) (rd : Int) (w : World) (h : n.In w.heap.size w) (hx : x.In w.heap.size w) (hcap : x.bag.bn ≤ x.bag.bc) (hl : l.In w.heap.size w) :
  Calls Tryz.prog 4 #[n.val, x.val, .slice l.ea l.en l.ec, .int .i64 rd] w fun r w' => r = .returned (.bool true) ∧ Below w.heap.size w w' := by
 obtain ⟨W0, hW0⟩ : ∃ W0, W0 = (w.alloc (.cells n.cells 27)).alloc (.cells x.cells 31) := ⟨_, rfl⟩
 have hB0 : Below w.heap.size w W0 := by rw [hW0]; exact ((Below.refl _ w).alloc (Nat.le_refl _) _).alloc (by simp) _
 have Hn0 : Hid (Blk W0 w.heap.size n.cells 27) := hide (by rw [hW0]; exact (Blk.new w _ _).alloc _)
 have Hx0 : Hid (Blk W0 (w.heap.size + 1) x.cells 31) := hide (by rw [hW0]; exact Blk.new' (by simp))
 have HP := hide (play_all n x l W0 (h.grown hB0) (hx.grown hB0) (hl.grown hB0))
 have HCm := hide (fun W (hb : Below w.heap.size w W) => calm_all n x rd W (h.grown hb) (hx.grown hb))
 have HCk := hide (fun W (hb : Below w.heap.size w W) => refChk_any n x W (h.grown hb) (hx.grown hb))
 have HPo := hide (fun W (hb : Below w.heap.size w W) he hle => playOf_any n x l W (h.grown hb) (hx.grown hb) (hl.grown hb) he hcap hle)
 have HCo := hide (fun (R : Nat) W (hb : Below w.heap.size w W) he hR => calmOf_any n x R W (h.grown hb) (hx.grown hb) he hcap hR)
 have hle := hl.len
 unfold maxLen at hle
 obtain ⟨U, hU⟩ : ∃ U, U = playU x n.net l.en := ⟨_, rfl⟩
 obtain ⟨V, hV⟩ : ∃ V, V = calmU x n.net rd := ⟨_, rfl⟩
 obtain ⟨er, her⟩ : ∃ er, er = x.err n.net := ⟨_, rfl⟩
 obtain ⟨c1, hc1⟩ : ∃ c1 : Int, c1 = if playU x n.net l.en = 0 then ((Eng.play n.net x.eng l.evs).2 : Int) else 0 := ⟨_, rfl⟩
 obtain ⟨cn, hcn⟩ : ∃ cn : Nat, cn = (Eng.play n.net x.eng l.evs).2 := ⟨_, rfl⟩
 rw [← hc1, ← hU] at HP
 rw [← hU, ← hcn] at hc1
 rw [← hV] at HCm
 rw [← her] at HCk HPo HCo
 rw [← hcn] at HPo
 have HU : Hid (U = if er ≠ 0 then er else if 300 < l.en then 2 else 0) := hide (by rw [hU, her]; rfl)
 have HV : Hid (V = if er ≠ 0 then er else if rd < 0 ∨ 100 < rd then 3 else 0) := hide (by rw [hV, her]; rfl)
 have Hc1 := hide hc1
 have Her := hide her
 have HB0 := hide hB0
 have Hxx := hide hx
 simp only [NetM.val, NetM.cells, Mat.val, EngM.val, EngM.cells] at HP HCm HCk HPo HCo hW0 ⊢
 rw [hW0] at HP
 have HW0 := hide hW0
 clear h hx hl hcap hB0 hW0 hU hV her hc1 hcn
 go_enter Tryz.func4, Tryz.ntmps4
 go_wp2_with fail
 go_at_call 14
 refine HP.out.mono ?_
 rw [← HW0.out]
 rintro r W1 ⟨⟨my, rfl, hy, hy0, hy1⟩, hb1⟩
 obtain ⟨qy, hqy⟩ : ∃ qy, qy = W1.heap.size := ⟨_, rfl⟩
 obtain ⟨W2, hW2⟩ : ∃ W2, W2 = W1.alloc (.cells my.cells 31) := ⟨_, rfl⟩
 have hb02 : Below W0.heap.size W0 W2 := by rw [hW2]; exact hb1.alloc hb1.size _
 have hb12 : Below W1.heap.size W1 W2 := by rw [hW2]; exact (Below.refl _ W1).alloc (Nat.le_refl _) _
 have Hn2 := hide (Hn0.out.below hb02 Hn0.out.lt)
 have Hx2 := hide (Hx0.out.below hb02 Hx0.out.lt)
 have Hy2 : Hid (Blk W2 qy my.cells 31) := hide (by rw [hW2]; exact Blk.new' hqy)
 have Hym := hide (hy.grown hb12)
 have HB2 := hide (HB0.out.trans (hb02.mono HB0.out.size))
 have Hy0 := hide hy0
 have Hy1 := hide hy1
 have HC := hide (HCm.out W2 HB2.out)
 have n0 := Hn2.out.cell 0
 have n1 := Hn2.out.cell 1
 have n2 := Hn2.out.cell 2
 have n3 := Hn2.out.cell 3
 have n4 := Hn2.out.cell 4
 have x0 := Hx2.out.cell 0
 have x1 := Hx2.out.cell 1
 simp [NetM.cells, Mat.val] at n0 n1 n2 n3 n4
 simp [EngM.cells] at x0 x1
 simp only [EngM.cells] at hW2
 rw [hW2] at HC n0 n1 n2 n3 n4 x0 x1
 have HW2 := hide hW2
 have Hqy := hide hqy
 clear hy hy0 hy1 hb1 hqy hW2 hb02 hb12 HP Hn0 Hx0 HCm
 go_wp2_with fail
 go_at_call 15
 refine HC.out.mono ?_
 rw [← HW2.out, ← Hqy.out]
 rintro r W3 ⟨⟨mz, rfl, hz, hz0, hz1⟩, hb3⟩
 obtain ⟨qz, hqz⟩ : ∃ qz, qz = W3.heap.size := ⟨_, rfl⟩
 obtain ⟨W4, hW4⟩ : ∃ W4, W4 = W3.alloc (.cells mz.cells 31) := ⟨_, rfl⟩
 have hb24 : Below W2.heap.size W2 W4 := by rw [hW4]; exact hb3.alloc hb3.size _
 have hb34 : Below W3.heap.size W3 W4 := by rw [hW4]; exact (Below.refl _ W3).alloc (Nat.le_refl _) _
 have HG4 : Hid (PG w n x my mz qy qz W4) := hide ⟨HB2.out.trans (hb24.mono HB2.out.size), Hn2.out.below hb24 Hn2.out.lt, Hx2.out.below hb24 Hx2.out.lt, Hy2.out.below hb24 Hy2.out.lt, by rw [hW4]; exact Blk.new' hqz, Hym.out.grown hb24, hz.grown hb34⟩
 have Hz0 := hide hz0
 have Hz1 := hide hz1
 have HC2 := hide (HCk.out W4 HG4.out.below)
 clear n0 n1 n2 n3 n4 x0 x1
 have n0 := HG4.out.bn.cell 0
 have n1 := HG4.out.bn.cell 1
 have n2 := HG4.out.bn.cell 2
 have n3 := HG4.out.bn.cell 3
 have n4 := HG4.out.bn.cell 4
 have x0 := HG4.out.bx.cell 0
 have x1 := HG4.out.bx.cell 1
 simp [NetM.cells, Mat.val] at n0 n1 n2 n3 n4
 simp [EngM.cells] at x0 x1
 simp only [EngM.cells] at hW4
 rw [hW4] at HC2 n0 n1 n2 n3 n4 x0 x1
 have HW4 := hide hW4
 have Hqz := hide hqz
 clear hz hz0 hz1 hb3 hqz hW4 hb24 hb34 HC Hn2 Hx2 Hy2 Hym HB2 HCk
 go_wp2_with fail
 go_at_call 8
 refine HC2.out.mono ?_
 rw [← HW4.out, ← Hqz.out]
 rintro r W5 ⟨rfl, hb5⟩
 have HG5 := hide (HG4.out.keep hb5)
 obtain ⟨qa, hqa⟩ : ∃ qa, qa = W5.heap.size := ⟨_, rfl⟩
 obtain ⟨W6, hW6⟩ : ∃ W6, W6 = (W5.alloc (.cells #[.slice none 0 0, .slice none 0 0] 31)).alloc (.cells #[.slice none 0 0, .slice none 0 0] 31) := ⟨_, rfl⟩
 have hb56 : Below W5.heap.size W5 W6 := by rw [hW6]; exact ((Below.refl _ W5).alloc (Nat.le_refl _) _).alloc (by simp) _
 have Ha6 : Hid (Blk W6 qa #[.slice none 0 0, .slice none 0 0] 31) := hide (by rw [hW6, hqa]; exact (Blk.new W5 _ _).alloc _)
 have Hb6 : Hid (Blk W6 (qa + 1) #[.slice none 0 0, .slice none 0 0] 31) := hide (by rw [hW6, hqa]; exact Blk.new' (by simp))
 have Hb56 := hide hb56
 have HG6 := hide (HG5.out.keep hb56)
 have HW6 := hide hW6
 have Hqa := hide hqa
 have Hwa : Hid (w.heap.size + 2 ≤ qa) := hide (by have := HG5.out.bx.lt; omega)
 clear hb5 hqa hW6 hb56 HC2 HW4 HW2 HW0 HG4 n0 n1 n2 n3 n4 x0 x1
 by_cases her0 : er = 0
 rotate_left
 ·have hU : U = er := by rw [HU.out, if_pos her0]
  have hV : V = er := by rw [HV.out, if_pos her0]
  have hc : c1 = 0 := by rw [Hc1.out, if_neg (by rw [hU]; exact her0)]
  subst hU
  subst hV
  subst hc
  have hU0 := her0
  have hV0 := her0
  have he' : (V == 0) = false := by simpa using her0
  have HG8 := HG6
  have Ha8 := Ha6
  have Hb8 := Hb6
  have HW8 := HW6
  have Hb58 := Hb56
  have HG10 := HG8
  have Ha10 := Ha8
  have Hb10 := Hb8
  have HC := hide (engineBegun_any W6)
  rw [HW6.out] at HC
  go_wp2_with fail
  go_at_call 12
  refine HC.out.mono ?_
  rw [← HW6.out, ← Hqa.out]
  rintro r W11 ⟨rfl, hb11⟩
  have HG11 := hide (HG10.out.keep hb11)
  have Ha11 := hide (Ha10.out.below hb11 Ha10.out.lt)
  have Hb11 := hide (Hb10.out.below hb11 Hb10.out.lt)
  have y0 := HG11.out.yy.cell 0
  have y1 := HG11.out.yy.cell 1
  have a0 := Ha11.out.cell 0
  have a1 := Ha11.out.cell 1
  simp [EngM.cells] at y0 y1 a0 a1
  have HCi := hide (engineIs_zero my (Hy1.out hU0) V W11 hU0)
  clear hb11 HC
  go_wp2_with fail
  go_at_call 13
  refine HCi.out.mono ?_
  rintro r W12 ⟨rfl, hb12⟩
  have HG12 := hide (HG11.out.keep hb12)
  have Hb12 := hide (Hb11.out.below hb12 Hb11.out.lt)
  clear y0 y1 a0 a1
  have z0 := HG12.out.zz.cell 0
  have z1 := HG12.out.zz.cell 1
  have d0 := Hb12.out.cell 0
  have d1 := Hb12.out.cell 1
  simp [EngM.cells] at z0 z1 d0 d1
  have HCj := hide (engineIs_zero mz (Hz1.out hV0) V W12 hV0)
  clear hb12 HCi
  go_wp2_with fail
  go_at_call 13
  refine HCj.out.mono ?_
  rintro r W13 ⟨rfl, hb13⟩
  have HF := hide (HG12.out.below.trans (hb13.mono HG12.out.below.size))
  clear hb13 HCj
  go_wp2
  go_ret
  exact ⟨rfl, HF.out⟩
 subst her0
 have hck : n.net.check = 0 := by
  have := Her.out.symm
  unfold EngM.err at this
  split at this
  ·next h1 => exact absurd this h1
  ·next h1 => omega
 obtain ⟨N, hNn⟩ : ∃ N : Nat, n.net.nodes = N := ⟨n.net.nodes.toNat, by have := (Net.good_of_check hck).lo; omega⟩
 have hU : U = if 300 < l.en then 2 else 0 := by rw [HU.out, if_neg (by decide)]
 have hV : V = if rd < 0 ∨ 100 < rd then 3 else 0 := by rw [HV.out, if_neg (by decide)]
 clear hck
 by_cases hen : 300 < l.en
 ·rw [if_pos hen] at hU
  subst hU
  have hU0 : (2 : Int) ≠ 0 := by decide
  have hc : c1 = 0 := by rw [Hc1.out, if_neg (by decide)]
  subst hc
  have hei : (300 : Int) < (l.en : Int) := by omega
  by_cases hr1 : rd < 0
  ·rw [if_pos (Or.inl hr1)] at hV
   subst hV
   have hV0 : (3 : Int) ≠ 0 := by decide
   have HG8 := HG6
   have Ha8 := Ha6
   have Hb8 := Hb6
   have HW8 := HW6
   have Hb58 := Hb56
   have HG10 := HG8
   have Ha10 := Ha8
   have Hb10 := Hb8
   have HC := hide (engineBegun_any W6)
   rw [HW6.out] at HC
   go_wp2_with fail
   go_at_call 12
   refine HC.out.mono ?_
   rw [← HW6.out, ← Hqa.out]
   rintro r W11 ⟨rfl, hb11⟩
   have HG11 := hide (HG10.out.keep hb11)
   have Ha11 := hide (Ha10.out.below hb11 Ha10.out.lt)
   have Hb11 := hide (Hb10.out.below hb11 Hb10.out.lt)
   have y0 := HG11.out.yy.cell 0
   have y1 := HG11.out.yy.cell 1
   have a0 := Ha11.out.cell 0
   have a1 := Ha11.out.cell 1
   simp [EngM.cells] at y0 y1 a0 a1
   have HCi := hide (engineIs_zero my (Hy1.out hU0) 2 W11 hU0)
   clear hb11 HC
   go_wp2_with fail
   go_at_call 13
   refine HCi.out.mono ?_
   rintro r W12 ⟨rfl, hb12⟩
   have HG12 := hide (HG11.out.keep hb12)
   have Hb12 := hide (Hb11.out.below hb12 Hb11.out.lt)
   clear y0 y1 a0 a1
   have z0 := HG12.out.zz.cell 0
   have z1 := HG12.out.zz.cell 1
   have d0 := Hb12.out.cell 0
   have d1 := Hb12.out.cell 1
   simp [EngM.cells] at z0 z1 d0 d1
   have HCj := hide (engineIs_zero mz (Hz1.out hV0) 3 W12 hV0)
   clear hb12 HCi
   go_wp2_with fail
   go_at_call 13
   refine HCj.out.mono ?_
   rintro r W13 ⟨rfl, hb13⟩
   have HF := hide (HG12.out.below.trans (hb13.mono HG12.out.below.size))
   clear hb13 HCj
   go_wp2
   go_ret
   exact ⟨rfl, HF.out⟩
  by_cases hr2 : 100 < rd
  ·rw [if_pos (Or.inr hr2)] at hV
   subst hV
   have hV0 : (3 : Int) ≠ 0 := by decide
   have HG8 := HG6
   have Ha8 := Ha6
   have Hb8 := Hb6
   have HW8 := HW6
   have Hb58 := Hb56
   have HG10 := HG8
   have Ha10 := Ha8
   have Hb10 := Hb8
   have HC := hide (engineBegun_any W6)
   rw [HW6.out] at HC
   go_wp2_with fail
   go_at_call 12
   refine HC.out.mono ?_
   rw [← HW6.out, ← Hqa.out]
   rintro r W11 ⟨rfl, hb11⟩
   have HG11 := hide (HG10.out.keep hb11)
   have Ha11 := hide (Ha10.out.below hb11 Ha10.out.lt)
   have Hb11 := hide (Hb10.out.below hb11 Hb10.out.lt)
   have y0 := HG11.out.yy.cell 0
   have y1 := HG11.out.yy.cell 1
   have a0 := Ha11.out.cell 0
   have a1 := Ha11.out.cell 1
   simp [EngM.cells] at y0 y1 a0 a1
   have HCi := hide (engineIs_zero my (Hy1.out hU0) 2 W11 hU0)
   clear hb11 HC
   go_wp2_with fail
   go_at_call 13
   refine HCi.out.mono ?_
   rintro r W12 ⟨rfl, hb12⟩
   have HG12 := hide (HG11.out.keep hb12)
   have Hb12 := hide (Hb11.out.below hb12 Hb11.out.lt)
   clear y0 y1 a0 a1
   have z0 := HG12.out.zz.cell 0
   have z1 := HG12.out.zz.cell 1
   have d0 := Hb12.out.cell 0
   have d1 := Hb12.out.cell 1
   simp [EngM.cells] at z0 z1 d0 d1
   have HCj := hide (engineIs_zero mz (Hz1.out hV0) 3 W12 hV0)
   clear hb12 HCi
   go_wp2_with fail
   go_at_call 13
   refine HCj.out.mono ?_
   rintro r W13 ⟨rfl, hb13⟩
   have HF := hide (HG12.out.below.trans (hb13.mono HG12.out.below.size))
   clear hb13 HCj
   go_wp2
   go_ret
   exact ⟨rfl, HF.out⟩
  rw [if_neg (by omega)] at hV
  subst hV
  obtain ⟨R, hR⟩ : ∃ R : Nat, rd = R := ⟨rd.toNat, by omega⟩
  subst hR
  have HG8 := HG6
  have Ha8 := Ha6
  have Hb8 := Hb6
  have HW8 := HW6
  have Hb58 := Hb56
  have HC := hide (HCo.out R W6 HG8.out.below (by trivial) (by omega))
  have n0 := HG8.out.bn.cell 0
  have n1 := HG8.out.bn.cell 1
  have n2 := HG8.out.bn.cell 2
  have n3 := HG8.out.bn.cell 3
  have n4 := HG8.out.bn.cell 4
  have x0 := HG8.out.bx.cell 0
  have x1 := HG8.out.bx.cell 1
  simp [NetM.cells, Mat.val] at n0 n1 n2 n3 n4
  simp [EngM.cells] at x0 x1
  rw [HW6.out] at HC n0 n1 n2 n3 n4 x0 x1
  go_wp2_with fail
  go_at_call 17
  refine HC.out.mono ?_
  rw [← HW6.out, ← Hqa.out]
  rintro r W9 ⟨m9, rfl, ha9, he9⟩
  have hcz := ha9.clear Hxx.out (show w.heap.size ≤ qa + 1 by have := Hwa.out; omega) Hb8.out
  have ha10 := Ha8.out.below ha9.below Ha8.out.lt
  have hb10 := Hb8.out.below ha9.below Hb8.out.lt
  obtain ⟨W10, hW10⟩ : ∃ W10, W10 = (W9.setCell ⟨qa + 1, 0, none⟩ (.slice m9.rs.ga m9.rs.gn m9.rs.gc)).setCell ⟨qa + 1, 1, none⟩ (.slice m9.bag.ba m9.bag.bn m9.bag.bc) := ⟨_, rfl⟩
  have Hb510 : Hid (Below W5.heap.size W5 W10) := hide (by rw [hW10]; exact (((Hb58.out.trans (ha9.below.mono Hb58.out.size)).setCell (p := ⟨qa + 1, 0, none⟩) (by rw [Hqa.out]; show W5.heap.size ≤ W5.heap.size + 1; omega) _).setCell (p := ⟨qa + 1, 1, none⟩) (by rw [Hqa.out]; show W5.heap.size ≤ W5.heap.size + 1; omega) _))
  have Ha10 := hide (show Blk W10 qa _ _ by rw [hW10]; exact (ha10.other (by omega) _ _).other (by omega) _ _)
  have Hb10 : Hid (Blk W10 (qa + 1) m9.cells 31) := hide (by rw [hW10]; exact hb10.set2 _ _)
  have Hn10 : Hid (m9.In W10.heap.size W10) := hide (by rw [hW10]; simpa using (ha9.mem.set hcz 0 _).set hcz 1 _)
  have He9 := hide he9
  have Hr9 := hide ha9.err
  have t0 := hb10.cell 0
  have t1 := hb10.cell 1
  have g0 := hb10.frozen 0
  have g1 := hb10.frozen 1
  simp at t0 t1
  have HG10 := hide (HG5.out.keep Hb510.out)
  have HW10 := hide hW10
  clear ha9 he9 hcz ha10 hb10 HC hW10 HCo n0 n1 n2 n3 n4 x0 x1
  have HC := hide (engineBegun_any W10)
  rw [HW10.out] at HC
  go_wp2_with fail
  go_at_call 12
  refine HC.out.mono ?_
  rw [← HW10.out]
  rintro r W11 ⟨rfl, hb11⟩
  have HG11 := hide (HG10.out.keep hb11)
  have Ha11 := hide (Ha10.out.below hb11 Ha10.out.lt)
  have Hb11 := hide (Hb10.out.below hb11 Hb10.out.lt)
  have y0 := HG11.out.yy.cell 0
  have y1 := HG11.out.yy.cell 1
  have a0 := Ha11.out.cell 0
  have a1 := Ha11.out.cell 1
  simp [EngM.cells] at y0 y1 a0 a1
  have HCi := hide (engineIs_zero my (Hy1.out hU0) 2 W11 hU0)
  have Hn11 := hide (Hn10.out.grown hb11)
  clear hb11 HC
  go_wp2_with fail
  go_at_call 13
  refine HCi.out.mono ?_
  rintro r W12 ⟨rfl, hb12⟩
  have HG12 := hide (HG11.out.keep hb12)
  have Hb12 := hide (Hb11.out.below hb12 Hb11.out.lt)
  clear y0 y1 a0 a1
  have z0 := HG12.out.zz.cell 0
  have z1 := HG12.out.zz.cell 1
  have d0 := Hb12.out.cell 0
  have d1 := Hb12.out.cell 1
  simp [EngM.cells] at z0 z1 d0 d1
  have HCj := hide (engineIs_same mz m9 W12 HG12.out.hz (Hn11.out.grown hb12) (EngM.same_of (EngM.right (Hz0.out (by trivial)).1 hNn) (EngM.right Hr9.out hNn) ((Hz0.out (by trivial)).2.trans He9.out.symm)))
  simp only [EngM.val, EngM.cells] at HCj
  clear hb12 HCi
  go_wp2_with fail
  go_at_call 13
  refine HCj.out.mono ?_
  rintro r W13 ⟨rfl, hb13⟩
  have HF := hide (HG12.out.below.trans (hb13.mono HG12.out.below.size))
  clear hb13 HCj
  go_wp2
  go_ret
  exact ⟨rfl, HF.out⟩
 rw [if_neg hen] at hU
 subst hU
 have hc : c1 = (cn : Int) := by rw [Hc1.out, if_pos rfl]
 subst hc
 have hei : ¬ (300 : Int) < (l.en : Int) := by omega
 by_cases hr1 : rd < 0
 ·rw [if_pos (Or.inl hr1)] at hV
  subst hV
  have hV0 : (3 : Int) ≠ 0 := by decide
  have HC := hide (HPo.out W6 HG6.out.below (by trivial) (by omega))
  have n0 := HG6.out.bn.cell 0
  have n1 := HG6.out.bn.cell 1
  have n2 := HG6.out.bn.cell 2
  have n3 := HG6.out.bn.cell 3
  have n4 := HG6.out.bn.cell 4
  have x0 := HG6.out.bx.cell 0
  have x1 := HG6.out.bx.cell 1
  simp [NetM.cells, Mat.val] at n0 n1 n2 n3 n4
  simp [EngM.cells] at x0 x1
  rw [HW6.out] at HC n0 n1 n2 n3 n4 x0 x1
  go_wp2_with fail
  go_at_call 16
  refine HC.out.mono ?_
  rw [← HW6.out, ← Hqa.out]
  rintro r W7 ⟨m5, rfl, ha5, he5⟩
  have hca := ha5.clear Hxx.out (show w.heap.size ≤ qa by have := Hwa.out; omega) Ha6.out
  have hcb := ha5.clear Hxx.out (show w.heap.size ≤ qa + 1 by have := Hwa.out; omega) Hb6.out
  have ha7 := Ha6.out.below ha5.below Ha6.out.lt
  have hb7 := Hb6.out.below ha5.below Hb6.out.lt
  obtain ⟨W8, hW8⟩ : ∃ W8, W8 = (W7.setCell ⟨qa, 0, none⟩ (.slice m5.rs.ga m5.rs.gn m5.rs.gc)).setCell ⟨qa, 1, none⟩ (.slice m5.bag.ba m5.bag.bn m5.bag.bc) := ⟨_, rfl⟩
  have Hb58 : Hid (Below W5.heap.size W5 W8) := hide (by rw [hW8]; exact (((Hb56.out.trans (ha5.below.mono Hb56.out.size)).setCell (p := ⟨qa, 0, none⟩) (by rw [Hqa.out]; exact Nat.le_refl _) _).setCell (p := ⟨qa, 1, none⟩) (by rw [Hqa.out]; exact Nat.le_refl _) _))
  have Ha8 : Hid (Blk W8 qa m5.cells 31) := hide (by rw [hW8]; exact ha7.set2 _ _)
  have Hb8 : Hid (Blk W8 (qa + 1) #[.slice none 0 0, .slice none 0 0] 31) := hide (by rw [hW8]; exact (hb7.other (by omega) _ _).other (by omega) _ _)
  have Hm8 : Hid (m5.In W8.heap.size W8) := hide (by rw [hW8]; simpa using (ha5.mem.set hca 0 _).set hca 1 _)
  have Hcb := hide hcb
  have He5 := hide he5
  have Hr5 := hide ha5.err
  have s0 := ha7.cell 0
  have s1 := ha7.cell 1
  have f0 := ha7.frozen 0
  have f1 := ha7.frozen 1
  simp at s0 s1
  have HG8 := hide (HG5.out.keep Hb58.out)
  have HW8 := hide hW8
  clear ha5 he5 hca hcb ha7 hb7 HC hW8 HPo n0 n1 n2 n3 n4 x0 x1
  have HG10 := HG8
  have Ha10 := Ha8
  have Hb10 := Hb8
  have Hm10 := Hm8
  have HC := hide (engineBegun_any W8)
  rw [HW8.out] at HC
  go_wp2_with fail
  go_at_call 12
  refine HC.out.mono ?_
  rw [← HW8.out]
  rintro r W11 ⟨rfl, hb11⟩
  have HG11 := hide (HG10.out.keep hb11)
  have Ha11 := hide (Ha10.out.below hb11 Ha10.out.lt)
  have Hb11 := hide (Hb10.out.below hb11 Hb10.out.lt)
  have y0 := HG11.out.yy.cell 0
  have y1 := HG11.out.yy.cell 1
  have a0 := Ha11.out.cell 0
  have a1 := Ha11.out.cell 1
  simp [EngM.cells] at y0 y1 a0 a1
  have HCi := hide (engineIs_same my m5 W11 HG11.out.hy (Hm10.out.grown hb11) (EngM.same_of (EngM.right (Hy0.out (by trivial)).1 hNn) (EngM.right Hr5.out hNn) ((Hy0.out (by trivial)).2.trans He5.out.symm)))
  simp only [EngM.val, EngM.cells] at HCi
  clear hb11 HC
  go_wp2_with fail
  go_at_call 13
  refine HCi.out.mono ?_
  rintro r W12 ⟨rfl, hb12⟩
  have HG12 := hide (HG11.out.keep hb12)
  have Hb12 := hide (Hb11.out.below hb12 Hb11.out.lt)
  clear y0 y1 a0 a1
  have z0 := HG12.out.zz.cell 0
  have z1 := HG12.out.zz.cell 1
  have d0 := Hb12.out.cell 0
  have d1 := Hb12.out.cell 1
  simp [EngM.cells] at z0 z1 d0 d1
  have HCj := hide (engineIs_zero mz (Hz1.out hV0) 3 W12 hV0)
  clear hb12 HCi
  go_wp2_with fail
  go_at_call 13
  refine HCj.out.mono ?_
  rintro r W13 ⟨rfl, hb13⟩
  have HF := hide (HG12.out.below.trans (hb13.mono HG12.out.below.size))
  clear hb13 HCj
  go_wp2
  go_ret
  exact ⟨rfl, HF.out⟩
 by_cases hr2 : 100 < rd
 ·rw [if_pos (Or.inr hr2)] at hV
  subst hV
  have hV0 : (3 : Int) ≠ 0 := by decide
  have HC := hide (HPo.out W6 HG6.out.below (by trivial) (by omega))
  have n0 := HG6.out.bn.cell 0
  have n1 := HG6.out.bn.cell 1
  have n2 := HG6.out.bn.cell 2
  have n3 := HG6.out.bn.cell 3
  have n4 := HG6.out.bn.cell 4
  have x0 := HG6.out.bx.cell 0
  have x1 := HG6.out.bx.cell 1
  simp [NetM.cells, Mat.val] at n0 n1 n2 n3 n4
  simp [EngM.cells] at x0 x1
  rw [HW6.out] at HC n0 n1 n2 n3 n4 x0 x1
  go_wp2_with fail
  go_at_call 16
  refine HC.out.mono ?_
  rw [← HW6.out, ← Hqa.out]
  rintro r W7 ⟨m5, rfl, ha5, he5⟩
  have hca := ha5.clear Hxx.out (show w.heap.size ≤ qa by have := Hwa.out; omega) Ha6.out
  have hcb := ha5.clear Hxx.out (show w.heap.size ≤ qa + 1 by have := Hwa.out; omega) Hb6.out
  have ha7 := Ha6.out.below ha5.below Ha6.out.lt
  have hb7 := Hb6.out.below ha5.below Hb6.out.lt
  obtain ⟨W8, hW8⟩ : ∃ W8, W8 = (W7.setCell ⟨qa, 0, none⟩ (.slice m5.rs.ga m5.rs.gn m5.rs.gc)).setCell ⟨qa, 1, none⟩ (.slice m5.bag.ba m5.bag.bn m5.bag.bc) := ⟨_, rfl⟩
  have Hb58 : Hid (Below W5.heap.size W5 W8) := hide (by rw [hW8]; exact (((Hb56.out.trans (ha5.below.mono Hb56.out.size)).setCell (p := ⟨qa, 0, none⟩) (by rw [Hqa.out]; exact Nat.le_refl _) _).setCell (p := ⟨qa, 1, none⟩) (by rw [Hqa.out]; exact Nat.le_refl _) _))
  have Ha8 : Hid (Blk W8 qa m5.cells 31) := hide (by rw [hW8]; exact ha7.set2 _ _)
  have Hb8 : Hid (Blk W8 (qa + 1) #[.slice none 0 0, .slice none 0 0] 31) := hide (by rw [hW8]; exact (hb7.other (by omega) _ _).other (by omega) _ _)
  have Hm8 : Hid (m5.In W8.heap.size W8) := hide (by rw [hW8]; simpa using (ha5.mem.set hca 0 _).set hca 1 _)
  have Hcb := hide hcb
  have He5 := hide he5
  have Hr5 := hide ha5.err
  have s0 := ha7.cell 0
  have s1 := ha7.cell 1
  have f0 := ha7.frozen 0
  have f1 := ha7.frozen 1
  simp at s0 s1
  have HG8 := hide (HG5.out.keep Hb58.out)
  have HW8 := hide hW8
  clear ha5 he5 hca hcb ha7 hb7 HC hW8 HPo n0 n1 n2 n3 n4 x0 x1
  have HG10 := HG8
  have Ha10 := Ha8
  have Hb10 := Hb8
  have Hm10 := Hm8
  have HC := hide (engineBegun_any W8)
  rw [HW8.out] at HC
  go_wp2_with fail
  go_at_call 12
  refine HC.out.mono ?_
  rw [← HW8.out]
  rintro r W11 ⟨rfl, hb11⟩
  have HG11 := hide (HG10.out.keep hb11)
  have Ha11 := hide (Ha10.out.below hb11 Ha10.out.lt)
  have Hb11 := hide (Hb10.out.below hb11 Hb10.out.lt)
  have y0 := HG11.out.yy.cell 0
  have y1 := HG11.out.yy.cell 1
  have a0 := Ha11.out.cell 0
  have a1 := Ha11.out.cell 1
  simp [EngM.cells] at y0 y1 a0 a1
  have HCi := hide (engineIs_same my m5 W11 HG11.out.hy (Hm10.out.grown hb11) (EngM.same_of (EngM.right (Hy0.out (by trivial)).1 hNn) (EngM.right Hr5.out hNn) ((Hy0.out (by trivial)).2.trans He5.out.symm)))
  simp only [EngM.val, EngM.cells] at HCi
  clear hb11 HC
  go_wp2_with fail
  go_at_call 13
  refine HCi.out.mono ?_
  rintro r W12 ⟨rfl, hb12⟩
  have HG12 := hide (HG11.out.keep hb12)
  have Hb12 := hide (Hb11.out.below hb12 Hb11.out.lt)
  clear y0 y1 a0 a1
  have z0 := HG12.out.zz.cell 0
  have z1 := HG12.out.zz.cell 1
  have d0 := Hb12.out.cell 0
  have d1 := Hb12.out.cell 1
  simp [EngM.cells] at z0 z1 d0 d1
  have HCj := hide (engineIs_zero mz (Hz1.out hV0) 3 W12 hV0)
  clear hb12 HCi
  go_wp2_with fail
  go_at_call 13
  refine HCj.out.mono ?_
  rintro r W13 ⟨rfl, hb13⟩
  have HF := hide (HG12.out.below.trans (hb13.mono HG12.out.below.size))
  clear hb13 HCj
  go_wp2
  go_ret
  exact ⟨rfl, HF.out⟩
 rw [if_neg (by omega)] at hV
 subst hV
 obtain ⟨R, hR⟩ : ∃ R : Nat, rd = R := ⟨rd.toNat, by omega⟩
 subst hR
 have HC := hide (HPo.out W6 HG6.out.below (by trivial) (by omega))
 have n0 := HG6.out.bn.cell 0
 have n1 := HG6.out.bn.cell 1
 have n2 := HG6.out.bn.cell 2
 have n3 := HG6.out.bn.cell 3
 have n4 := HG6.out.bn.cell 4
 have x0 := HG6.out.bx.cell 0
 have x1 := HG6.out.bx.cell 1
 simp [NetM.cells, Mat.val] at n0 n1 n2 n3 n4
 simp [EngM.cells] at x0 x1
 rw [HW6.out] at HC n0 n1 n2 n3 n4 x0 x1
 go_wp2_with fail
 go_at_call 16
 refine HC.out.mono ?_
 rw [← HW6.out, ← Hqa.out]
 rintro r W7 ⟨m5, rfl, ha5, he5⟩
 have hca := ha5.clear Hxx.out (show w.heap.size ≤ qa by have := Hwa.out; omega) Ha6.out
 have hcb := ha5.clear Hxx.out (show w.heap.size ≤ qa + 1 by have := Hwa.out; omega) Hb6.out
 have ha7 := Ha6.out.below ha5.below Ha6.out.lt
 have hb7 := Hb6.out.below ha5.below Hb6.out.lt
 obtain ⟨W8, hW8⟩ : ∃ W8, W8 = (W7.setCell ⟨qa, 0, none⟩ (.slice m5.rs.ga m5.rs.gn m5.rs.gc)).setCell ⟨qa, 1, none⟩ (.slice m5.bag.ba m5.bag.bn m5.bag.bc) := ⟨_, rfl⟩
 have Hb58 : Hid (Below W5.heap.size W5 W8) := hide (by rw [hW8]; exact (((Hb56.out.trans (ha5.below.mono Hb56.out.size)).setCell (p := ⟨qa, 0, none⟩) (by rw [Hqa.out]; exact Nat.le_refl _) _).setCell (p := ⟨qa, 1, none⟩) (by rw [Hqa.out]; exact Nat.le_refl _) _))
 have Ha8 : Hid (Blk W8 qa m5.cells 31) := hide (by rw [hW8]; exact ha7.set2 _ _)
 have Hb8 : Hid (Blk W8 (qa + 1) #[.slice none 0 0, .slice none 0 0] 31) := hide (by rw [hW8]; exact (hb7.other (by omega) _ _).other (by omega) _ _)
 have Hm8 : Hid (m5.In W8.heap.size W8) := hide (by rw [hW8]; simpa using (ha5.mem.set hca 0 _).set hca 1 _)
 have Hcb := hide hcb
 have He5 := hide he5
 have Hr5 := hide ha5.err
 have s0 := ha7.cell 0
 have s1 := ha7.cell 1
 have f0 := ha7.frozen 0
 have f1 := ha7.frozen 1
 simp at s0 s1
 have HG8 := hide (HG5.out.keep Hb58.out)
 have HW8 := hide hW8
 clear ha5 he5 hca hcb ha7 hb7 HC hW8 HPo n0 n1 n2 n3 n4 x0 x1
 have HC := hide (HCo.out R W8 HG8.out.below (by trivial) (by omega))
 have n0 := HG8.out.bn.cell 0
 have n1 := HG8.out.bn.cell 1
 have n2 := HG8.out.bn.cell 2
 have n3 := HG8.out.bn.cell 3
 have n4 := HG8.out.bn.cell 4
 have x0 := HG8.out.bx.cell 0
 have x1 := HG8.out.bx.cell 1
 simp [NetM.cells, Mat.val] at n0 n1 n2 n3 n4
 simp [EngM.cells] at x0 x1
 rw [HW8.out] at HC n0 n1 n2 n3 n4 x0 x1
 go_wp2_with fail
 go_at_call 17
 refine HC.out.mono ?_
 rw [← HW8.out]
 rintro r W9 ⟨m9, rfl, ha9, he9⟩
 have hcz := ha9.clear Hxx.out (show w.heap.size ≤ qa + 1 by have := Hwa.out; omega) Hb8.out
 have ha10 := Ha8.out.below ha9.below Ha8.out.lt
 have hb10 := Hb8.out.below ha9.below Hb8.out.lt
 obtain ⟨W10, hW10⟩ : ∃ W10, W10 = (W9.setCell ⟨qa + 1, 0, none⟩ (.slice m9.rs.ga m9.rs.gn m9.rs.gc)).setCell ⟨qa + 1, 1, none⟩ (.slice m9.bag.ba m9.bag.bn m9.bag.bc) := ⟨_, rfl⟩
 have Hb510 : Hid (Below W5.heap.size W5 W10) := hide (by rw [hW10]; exact (((Hb58.out.trans (ha9.below.mono Hb58.out.size)).setCell (p := ⟨qa + 1, 0, none⟩) (by rw [Hqa.out]; show W5.heap.size ≤ W5.heap.size + 1; omega) _).setCell (p := ⟨qa + 1, 1, none⟩) (by rw [Hqa.out]; show W5.heap.size ≤ W5.heap.size + 1; omega) _))
 have Ha10 := hide (show Blk W10 qa _ _ by rw [hW10]; exact (ha10.other (by omega) _ _).other (by omega) _ _)
 have Hb10 : Hid (Blk W10 (qa + 1) m9.cells 31) := hide (by rw [hW10]; exact hb10.set2 _ _)
 have Hn10 : Hid (m9.In W10.heap.size W10) := hide (by rw [hW10]; simpa using (ha9.mem.set hcz 0 _).set hcz 1 _)
 have Hm10 : Hid (m5.In W10.heap.size W10) := hide (by rw [hW10]; simpa using ((Hm8.out.grown ha9.below).set Hcb.out 0 _).set Hcb.out 1 _)
 have He9 := hide he9
 have Hr9 := hide ha9.err
 have t0 := hb10.cell 0
 have t1 := hb10.cell 1
 have g0 := hb10.frozen 0
 have g1 := hb10.frozen 1
 simp at t0 t1
 have HG10 := hide (HG5.out.keep Hb510.out)
 have HW10 := hide hW10
 clear ha9 he9 hcz ha10 hb10 HC hW10 HCo n0 n1 n2 n3 n4 x0 x1
 have HC := hide (engineBegun_any W10)
 rw [HW10.out] at HC
 go_wp2_with fail
 go_at_call 12
 refine HC.out.mono ?_
 rw [← HW10.out]
 rintro r W11 ⟨rfl, hb11⟩
 have HG11 := hide (HG10.out.keep hb11)
 have Ha11 := hide (Ha10.out.below hb11 Ha10.out.lt)
 have Hb11 := hide (Hb10.out.below hb11 Hb10.out.lt)
 have y0 := HG11.out.yy.cell 0
 have y1 := HG11.out.yy.cell 1
 have a0 := Ha11.out.cell 0
 have a1 := Ha11.out.cell 1
 simp [EngM.cells] at y0 y1 a0 a1
 have HCi := hide (engineIs_same my m5 W11 HG11.out.hy (Hm10.out.grown hb11) (EngM.same_of (EngM.right (Hy0.out (by trivial)).1 hNn) (EngM.right Hr5.out hNn) ((Hy0.out (by trivial)).2.trans He5.out.symm)))
 simp only [EngM.val, EngM.cells] at HCi
 have Hn11 := hide (Hn10.out.grown hb11)
 clear hb11 HC
 go_wp2_with fail
 go_at_call 13
 refine HCi.out.mono ?_
 rintro r W12 ⟨rfl, hb12⟩
 have HG12 := hide (HG11.out.keep hb12)
 have Hb12 := hide (Hb11.out.below hb12 Hb11.out.lt)
 clear y0 y1 a0 a1
 have z0 := HG12.out.zz.cell 0
 have z1 := HG12.out.zz.cell 1
 have d0 := Hb12.out.cell 0
 have d1 := Hb12.out.cell 1
 simp [EngM.cells] at z0 z1 d0 d1
 have HCj := hide (engineIs_same mz m9 W12 HG12.out.hz (Hn11.out.grown hb12) (EngM.same_of (EngM.right (Hz0.out (by trivial)).1 hNn) (EngM.right Hr9.out hNn) ((Hz0.out (by trivial)).2.trans He9.out.symm)))
 simp only [EngM.val, EngM.cells] at HCj
 clear hb12 HCi
 go_wp2_with fail
 go_at_call 13
 refine HCj.out.mono ?_
 rintro r W13 ⟨rfl, hb13⟩
 have HF := hide (HG12.out.below.trans (hb13.mono HG12.out.below.size))
 clear hb13 HCj
 go_wp2
 go_ret
 exact ⟨rfl, HF.out⟩

end Go.Proofs.YtjhkadffaephmabGreat

/-
  A net as it came, out of its reading.
-/
namespace Go.Proofs.YtjhkadffaephmabGreat
set_option maxRecDepth 100000
open Go.RowKit Go.ChangeShapes Go.WideShapes Go.Joins Go.Deep

theorem Tryz.cells27 : Tryz.prog.cellsOf 27 = 5 := by kernel_rfl
theorem Tryz.cells65 : Tryz.prog.cellsOf 65 = 3 := by kernel_rfl
theorem Tryz.cells25 : Tryz.prog.cellsOf 25 = 1 := by kernel_rfl

section
variable {H : Type} {enc : TypeId × Value → H} {W : World}

theorem open_alg_cells {n : Nat} {cs : List Value} {y : DataW H × List MemPlace} (h : DataW.trod enc Tryz.prog W 0 (fun _ => true) true n 24 cs = some y) :
    ∃ a : AlgM, cs = [.int .i64 a.size, a.B.val, a.E.val] ∧ a.In W.heap.size W := by
  obtain ⟨xs, n1, rfl, rfl, hlc, hlen, hfs⟩ := DataW.trod_struct Tryz.underlying24 h
  rw [Tryz.cells24] at hlc
  match cs, hlc, xs, hlen with
  | [c0, c1, c2], _, [y0, y1, y2], _ =>
    have k0 := hfs 0 _ rfl
    have k1 := hfs 1 _ rfl
    have k2 := hfs 2 _ rfl
    simp [Tryz.cells3, Tryz.cells22] at k0 k1 k2
    obtain ⟨s, e0, _, _⟩ := DataW.trod_int Tryz.underlying3 k0
    simp at e0
    subst e0
    obtain ⟨B, rfl, hB⟩ := open_mat k1
    obtain ⟨E, rfl, hE⟩ := open_mat k2
    exact ⟨⟨s, B, E⟩, rfl, hB, hE⟩

theorem open_link_cells {n : Nat} {cs : List Value} {y : DataW H × List MemPlace} (h : DataW.trod enc Tryz.prog W 0 (fun _ => true) true n 65 cs = some y) :
    ∃ f t e : Int, cs = [.int .i64 f, .int .i64 t, .int .i64 e] := by
  obtain ⟨xs, n1, rfl, rfl, hlc, hlen, hfs⟩ := DataW.trod_struct Tryz.underlying65 h
  rw [Tryz.cells65] at hlc
  match cs, hlc, xs, hlen with
  | [c0, c1, c2], _, [y0, y1, y2], _ =>
    have k0 := hfs 0 _ rfl
    have k1 := hfs 1 _ rfl
    have k2 := hfs 2 _ rfl
    simp [Tryz.cells3] at k0 k1 k2
    obtain ⟨a0, e0, _, _⟩ := DataW.trod_int Tryz.underlying3 k0
    obtain ⟨a1, e1, _, _⟩ := DataW.trod_int Tryz.underlying3 k1
    obtain ⟨a2, e2, _, _⟩ := DataW.trod_int Tryz.underlying3 k2
    simp at e0 e1 e2
    subst e0 e1 e2
    exact ⟨a0, a1, a2, rfl⟩

theorem open_links {n : Nat} {v : Value} {y : DataW H × List MemPlace} (h : DataW.trod enc Tryz.prog W 0 (fun _ => true) true n 25 [v] = some y) :
    ∃ (la : Option Addr) (ln lc lb lo : Nat) (F T E : Nat → Int), v = .slice la ln lc ∧ (0 < ln → la = some ⟨lb, lo, none⟩) ∧ (0 < ln → lb < W.heap.size) ∧
      (∀ i, i < ln → W.cell? ⟨lb, lo + i * 3, none⟩ = some (.int .i64 (F i))) ∧ (∀ i, i < ln → W.cell? ⟨lb, lo + i * 3 + 1, none⟩ = some (.int .i64 (T i))) ∧ (∀ i, i < ln → W.cell? ⟨lb, lo + i * 3 + 2, none⟩ = some (.int .i64 (E i))) ∧ ln ≤ maxLen := by
  rcases DataW.trod_slice Tryz.underlying25 h with ⟨hcs, _⟩ | ⟨a, len, cap, elems, rest, n2, hn, hcs, hy, _, hl, hm, hel, hat, hsp, _⟩
  · simp at hcs
    exact ⟨none, 0, 0, 0, 0, fun _ => 0, fun _ => 0, fun _ => 0, hcs, fun h => absurd h (Nat.not_lt_zero _), fun h => absurd h (Nat.not_lt_zero _), fun _ h => absurd h (Nat.not_lt_zero _), fun _ h => absurd h (Nat.not_lt_zero _), fun _ h => absurd h (Nat.not_lt_zero _), Nat.zero_le _⟩
  · simp at hcs
    obtain ⟨gb, go, gs⟩ := a
    rcases Nat.eq_zero_or_pos len with hl0 | hlp
    · subst hl0
      exact ⟨_, 0, cap, 0, 0, fun _ => 0, fun _ => 0, fun _ => 0, hcs, fun h => absurd h (Nat.not_lt_zero _), fun h => absurd h (Nat.not_lt_zero _), fun _ h => absurd h (Nat.not_lt_zero _), fun _ h => absurd h (Nat.not_lt_zero _), fun _ h => absurd h (Nat.not_lt_zero _), Nat.zero_le _⟩
    · have each : ∀ i, i < len → ∃ cs', W.cells? 0 ((⟨gb, go, gs⟩ : Addr).add (i * 3)) 3 = some cs' ∧ ∃ f t e : Int, cs' = [.int .i64 f, .int .i64 t, .int .i64 e] := fun i hi => by
        have := hat i hi
        rw [Tryz.cells65, List.getElem?_eq_getElem (by omega)] at this
        obtain ⟨cs', h1, h2⟩ := Option.bind_eq_some_iff.1 this
        exact ⟨cs', h1, open_link_cells h2⟩
      have hgs : gs = none := by
        obtain ⟨cs', h1, f, t, e, h2⟩ := each 0 hlp
        have := (World.cells?_some h1).2.2 0 (by omega)
        rw [h2] at this
        simpa [Addr.add] using World.cell?_spot this
      subst hgs
      obtain ⟨P, hP⟩ := choose_lt (α := Int × Int × Int) (n := len) (p := fun i p => W.cell? ⟨gb, go + i * 3, none⟩ = some (.int .i64 p.1) ∧ W.cell? ⟨gb, go + i * 3 + 1, none⟩ = some (.int .i64 p.2.1) ∧ W.cell? ⟨gb, go + i * 3 + 2, none⟩ = some (.int .i64 p.2.2)) (fun i hi => by
        obtain ⟨cs', h1, f, t, e, h2⟩ := each i hi
        obtain ⟨_, _, hc⟩ := World.cells?_some h1
        rw [add_plain] at hc
        have g : ∀ j, j < 3 → W.cell? ⟨gb, go + i * 3 + j, none⟩ = [Value.int .i64 f, .int .i64 t, .int .i64 e][j]? := fun j hj => by rw [← add_plain, ← h2]; exact hc j hj
        exact ⟨(f, t, e), g 0 (by omega), g 1 (by omega), g 2 (by omega)⟩)
      exact ⟨_, len, cap, gb, go, fun i => (P i).1, fun i => (P i).2.1, fun i => (P i).2.2, hcs, fun _ => rfl, fun _ => World.block_lt_of_cell? _ _ (hP 0 hlp).1, fun i hi => (hP i hi).1, fun i hi => (hP i hi).2.1, fun i hi => (hP i hi).2.2, by omega⟩

theorem open_net {b0 : Nat} {v : Value} {d : DataW H} {p : List MemPlace} (hv : Value.okWide Tryz.prog W .any b0 27 v) (h : DataW.Trod enc Tryz.prog W 0 (fun _ => true) true 27 v d p) :
    ∃ n : NetM, v = n.val ∧ n.In W.heap.size W := by
  obtain ⟨cs, rfl, hsz⟩ := okWide_struct Tryz.underlying27 hv
  obtain ⟨fuel, hf⟩ := h
  obtain ⟨xs, n1, _, _, hlc, hlen, hfs⟩ := DataW.trod_struct Tryz.underlying27 hf
  obtain ⟨c0, c1, c2, c3, c4, rfl⟩ := array5 (hsz.trans Tryz.cells27)
  match xs, hlen with
  | [y0, y1, y2], _ =>
    have k0 := hfs 0 _ rfl
    have k1 := hfs 1 _ rfl
    have k2 := hfs 2 _ rfl
    simp [Value.cells, Tryz.cells3, Tryz.cells24, Tryz.cells25] at k0 k1 k2
    obtain ⟨a, ea, hA⟩ := open_alg_cells k0
    obtain ⟨s, e1, _, _⟩ := DataW.trod_int Tryz.underlying3 k1
    simp at e1 ea
    obtain ⟨rfl, rfl, rfl⟩ := ea
    subst e1
    obtain ⟨la, ln, lc, lb, lo, F, T, E, rfl, q1, q2, q3, q4, q5, q6⟩ := open_links k2
    exact ⟨⟨a, s, la, ln, lc, lb, lo, F, T, E⟩, rfl, hA, q1, q2, q3, q4, q5, q6⟩

end

end Go.Proofs.YtjhkadffaephmabGreat

/-
  A path as it came, out of its reading.
-/
namespace Go.Proofs.YtjhkadffaephmabGreat
set_option maxRecDepth 100000
open Go.RowKit Go.ChangeShapes Go.WideShapes Go.Joins Go.Deep

section
variable {H : Type} {enc : TypeId × Value → H} {W : World}

theorem open_path_cells {n : Nat} {cs : List Value} {y : DataW H × List MemPlace} (h : DataW.trod enc Tryz.prog W 0 (fun _ => true) true n 32 cs = some y) :
    ∃ (a : Option Addr) (l q b o : Nat) (f : Nat → Int), cs = [.slice a l q] ∧ Ints a l b o f W ∧ (0 < l → b < W.heap.size) ∧ l ≤ q ∧ q ≤ maxLen := by
  rcases open_ints Tryz.underlying32 Tryz.underlying3 Tryz.cells3 h with ⟨hcs, _⟩ | ⟨a, len, cap, zs, hcs, _, hl, hm, hz, _, hcell, _⟩
  · exact ⟨none, 0, 0, 0, 0, fun _ => 0, hcs, ⟨fun h => absurd h (Nat.not_lt_zero _), fun _ h => absurd h (Nat.not_lt_zero _), Nat.zero_le _⟩, fun h => absurd h (Nat.not_lt_zero _), Nat.le_refl _, Nat.zero_le _⟩
  · simp only [if_true] at hz
    obtain ⟨gb, go, gs⟩ := a
    rcases Nat.eq_zero_or_pos len with hl0 | hlp
    · subst hl0
      exact ⟨_, 0, cap, 0, 0, fun _ => 0, hcs, ⟨fun h => absurd h (Nat.not_lt_zero _), fun _ h => absurd h (Nat.not_lt_zero _), Nat.zero_le _⟩, fun h => absurd h (Nat.not_lt_zero _), Nat.zero_le _, hm⟩
    · have hgs : gs = none := by simpa [Addr.add] using World.cell?_spot (hcell 0 (by omega))
      subst hgs
      have hc : ∀ i, i < len → W.cell? ⟨gb, go + i, none⟩ = some (.int .i64 (zs.getD i 0)) := fun i hi => by rw [← add_plain]; exact hcell i (by omega)
      exact ⟨_, len, cap, gb, go, fun i => zs.getD i 0, hcs, ⟨fun _ => rfl, hc, by omega⟩, fun _ => World.block_lt_of_cell? _ _ (hc 0 hlp), hl, hm⟩
end

end Go.Proofs.YtjhkadffaephmabGreat
