/-
  Our own texts, bundled: a claim holds few files.
-/
import Derived.Test.YtjhkadffaephmabGreatCutEnginePlaysCD
import Derived.Test.YtjhkadffaephmabGreatCutEnginePlaysCE
import Derived.Test.YtjhkadffaephmabGreatCutEnginePlaysCA
import Derived.Lib.AppendZeros
import Derived.Test.YtjhkadffaephmabGreatCutEnginePlaysAF
/-
 signpostref.StepOf: mail comes twice.
-/
namespace Go.Proofs.YtjhkadffaephmabGreat
set_option maxRecDepth 100000
open Go.RowKit

set_option maxHeartbeats 16000000 in
theorem stepOf_twice (n : NetM) (x : EngM) (v : EvM) (N : Nat) (w : World) (h : n.In w.heap.size w) (hx : x.In w.heap.size w) (hv : v.In w.heap.size w) (hN : n.nodes = N) (hR : x.Right n.net N) (_hcap : x.bag.bn ≤ x.bag.bc) (k : Nat) (hk : v.loc = (k : Int)) (hkd : v.kind = 3) (hkb : k < x.bag.bn) :
  Calls Tryz.prog 10 #[n.val, x.val, v.val] w fun r w' => StepRef n.net x v.ev w r w' := by
 obtain ⟨hN0, hN6, hNN, hnn⟩ := nodes_six hR.check hN
 have hnn' : n.net.nodes = n.nodes := rfl
 have hlen : x.eng.bag.length = x.bag.bn := by show ((List.range x.bag.bn).map x.bag.M).length = _; simp
 have hbn := hR.bn
 have Herr : Hid (x.eng.stepErr n.net v.ev = if 120 ≤ x.bag.bn then 2 else 0) := hide (by rw [Eng.err_twice (v := v.ev) hkd (show 0 ≤ v.loc by omega) (show v.loc < (x.eng.bag.length : Int) by omega), hlen])
 obtain ⟨m, hm⟩ : ∃ m, m = x.bag.M k := ⟨_, rfl⟩
 have hget : x.eng.bag.getD k noMail = m := by rw [hm]; exact mails_at x.bag.M x.bag.bn k hkb
 have Hstep : Hid (x.eng.step n.net v.ev = { x.eng with bag := x.eng.bag ++ [m] }) := hide (by rw [Eng.does_twice (v := v.ev) hkd]; show x.eng.twice v.loc.toNat = _; rw [hk, ← hget]; rfl)
 have Hba : Hid (x.bag.ba = some ⟨x.bag.bb, x.bag.bo, none⟩) := hide (hx.bag.ba (by omega))
 have Hm := hide hm
 have hki : (k : Int) < (x.bag.bn : Int) := by omega
 clear hget hm
 have HCp := hide (fun W (hb : Below w.heap.size w W) => refCopied_any x N W (hx.grown hb) hR.gn hN0 hN6 hR.bn hR.rl hR.tl hR.ll)
 simp only [EngM.val, EngM.cells] at HCp
 obtain ⟨W0, hW0⟩ : ∃ W0, W0 = (((w.alloc (.cells n.cells 27)).alloc (.cells x.cells 31)).alloc (.cells v.cells 34)).alloc (.cells #[.slice none 0 0, .slice none 0 0] 31) := ⟨_, rfl⟩
 have hs0 : SB w n x v W0 := by rw [hW0]; exact SB.start w n x v
 have hz0 : W0.heap.size = w.heap.size + 4 := by rw [hW0]; simp
 have hnc : n.cells = #[.int .i64 n.a.size, .slice n.a.B.ga n.a.B.t.len n.a.B.cap, .slice n.a.E.ga n.a.E.t.len n.a.E.cap, .int .i64 N, .slice n.la n.ln n.lc] := by simp only [NetM.cells, Mat.val, hN]
 have hvc : v.cells = #[.int .i64 3, .int .i64 (k : Int), .int .i64 v.b, .int .i64 v.c, .slice v.ra v.rl v.rc] := by rw [← hkd, ← hk]; rfl
 have hxc : x.cells = #[.slice x.rs.ga x.rs.gn x.rs.gc, .slice x.bag.ba x.bag.bn x.bag.bc] := rfl
 have H := hide h
 have Hx := hide hx
 have Hv := hide hv
 have HR := hide hR
 have Hs0 := hide hs0
 have Hz0 := hide hz0
 have Hnc := hide hnc
 have Hvc := hide hvc
 have Hxc := hide hxc
 have HN := hide hN
 have Hlen := hide hlen
 have Hnn := hide hnn
 have HNN := hide hNN
 have Hkd := hide hkd
 have Hk := hide hk
 have HIs := hide (fun (i : Int) (W : World) => isNode_any n i W (by omega) (by omega))
 simp only [NetM.val, hnc, hN] at HIs
 rw [hnc, hvc, hxc] at hW0
 simp only [NetM.val, EngM.val, EvM.val, hnc, hvc, hxc]
 have HW0 := hide hW0
 have v0 := Hs0.out.bv.cell 0
 have v1 := Hs0.out.bv.cell 1
 have v2 := Hs0.out.bv.cell 2
 have v3 := Hs0.out.bv.cell 3
 have v4 := Hs0.out.bv.cell 4
 rw [Hvc.out] at v0 v1 v2 v3 v4
 simp at v0 v1 v2 v3 v4
 have n0 := Hs0.out.bn.cell 0
 have n1 := Hs0.out.bn.cell 1
 have n2 := Hs0.out.bn.cell 2
 have n3 := Hs0.out.bn.cell 3
 have n4 := Hs0.out.bn.cell 4
 rw [Hnc.out] at n0 n1 n2 n3 n4
 simp at n0 n1 n2 n3 n4
 have x0 := Hs0.out.bx.cell 0
 have x1 := Hs0.out.bx.cell 1
 rw [Hxc.out] at x0 x1
 simp at x0 x1
 clear h hx hv hR hs0 hz0 hnc hvc hxc hN hW0 hlen hnn hNN hnn' hkd hk 
 go_enter Tryz.func10, Tryz.ntmps10
 go_wp2_with fail
 rw [← HW0.out]
 go_at_call 24
 refine (between_any _ _ _ _).mono ?_
 rintro e w1 ⟨rfl, hw1⟩
 rw [hw1]
 clear hw1
 have hb1 : (decide ((1 : Int) ≤ 3) && decide ((3 : Int) ≤ 7)) = true := by decide
 rw [hb1]
 clear hb1
 go_wp2_with fail
 go_at_call 24
 refine (between_any _ _ _ _).mono ?_
 rintro e w1 ⟨rfl, hw1⟩
 rw [hw1]
 clear hw1
 have hb2 : (decide ((2 : Int) ≤ 3) && decide ((3 : Int) ≤ 5)) = true := by decide
 rw [hb2]
 clear hb2
 go_wp2_with fail
 go_at_call 24
 refine (between_any _ _ _ _).mono ?_
 rintro e w1 ⟨rfl, hw1⟩
 rw [hw1]
 clear hw1
 have hb3 : (decide (0 ≤ (k : Int)) && decide ((k : Int) ≤ (x.bag.bn : Int) - 1)) = true := by simp; omega
 rw [hb3]
 clear hb3
 by_cases hmany : 120 ≤ x.bag.bn
 ·have hmi : (120 : Int) ≤ (x.bag.bn : Int) := by omega
  have Her : Hid (x.eng.stepErr n.net v.ev = 2) := hide (by rw [Herr.out, if_pos hmany])
  clear hmany
  have HF := hide (step_no (er := 2) Hs0.out (Her.out) (by decide))
  have c7 := (Hs0.out.br.set 0 (.slice none 0 0)).set 1 (.slice none 0 0)
  have e0 := c7.cell 0
  have e1 := c7.cell 1
  simp at e0 e1
  have r0 := Hs0.out.br.cell 0
  have r1 := Hs0.out.br.cell 1
  have fr0 := Hs0.out.br.frozen 0
  have fr1 := Hs0.out.br.frozen 1
  simp at r0 r1
  clear c7
  go_wp2
  exact bodyPost_ret (v := .tuple #[.agg #[.slice none 0 0, .slice none 0 0], .int .i64 2]) (by simp [results, Tryz.results10, go_sem, e0, e1]) rfl HF.out
 have hmi : ¬ (120 : Int) ≤ (x.bag.bn : Int) := by omega
 have Her : Hid (x.eng.stepErr n.net v.ev = 0) := hide (by rw [Herr.out, if_neg hmany])
 have HC := hide (HCp.out W0 Hs0.out.below)
 clear HCp hmany
 go_wp2_with fail
 go_at_call 35
 refine HC.out.mono ?_
 rintro r W1 ⟨⟨P0, Bv, y, hL1, rfl⟩, hb1⟩
 obtain ⟨ba, bc, hBv⟩ := own_form hL1.live.bag
 obtain ⟨bl, hbl⟩ : ∃ bl, bl = x.eng.bag.length := ⟨_, rfl⟩
 rw [← hbl] at hBv
 subst hBv
 have Hbl := hide hbl
 obtain ⟨P, hP⟩ : ∃ P, P = W1.heap.size := ⟨_, rfl⟩
 obtain ⟨W2, hW2⟩ : ∃ W2, W2 = W1.alloc (.cells #[.slice (some ⟨y.G, 0, none⟩) N y.gc, .slice ba bl bc] 31) := ⟨_, rfl⟩
 have hbab : Below W1.heap.size W1 W2 := by rw [hW2]; exact (Below.refl _ W1).alloc (Nat.le_refl _) _
 have hbib := hb1.trans (hbab.mono hb1.size)
 have hL2 := hL1.rebox
 rw [← hW2, ← hP] at hL2
 have HL2 := hide hL2.live
 have Hs2 := hide (Hs0.out.keep hbib)
 have Hb2 := hide hbib
 have HW2 := hide hW2
 have HP := hide hP
 clear hL1 hb1 hbab hbib hL2 hW2 hP HC hbl  v0 v1 v2 v3 v4 n0 n1 n2 n3 n4 x0 x1
 go_wp2_with fail
 rw [← HW2.out, ← HP.out]
 have Hkb := hide hkb
 refine wp_region_done (fun d W => AddG w n x v W0.heap.size P N x.eng m (.slice ba bl bc) y W2 (d 9) (d 11) W) (fun d => addE [.pointer (some ⟨P, 1, none⟩), .slice ba bl bc, .pointer (some ⟨w.heap.size + 1, 1, none⟩), .slice (some ⟨x.bag.bb, x.bag.bo, none⟩) x.bag.bn x.bag.bc, .pointer (some ⟨w.heap.size + 1 + 1, 1, none⟩), .int .i64 (k : Int), .pointer (some ⟨x.bag.bb, x.bag.bo + k * 3, none⟩), .agg #[.int .i64 m.F, .int .i64 m.T, .string ⟨m.b.toArray⟩], undef, undef, .pointer (some ⟨P, 1, none⟩), undef] 8 9 11 W0.heap.size (x.eng).bag m (.slice ba bl bc) W2 (d 9) (d 11)) (by kernel_rfl) (by kernel_rfl) (by kernel_rfl) (AddG.start ⟨rfl, rfl, rfl, Nat.le_refl _, fun _ _ => rfl⟩) ⟨?_, ?_, ?_, ?_, ?_, ?_, ?_, ?_, ?_, ?_, ?_, ?_, trivial⟩ ?_
 rotate_right
 ·intro d t W hall hG _
  simp only [fill, Act.put, List.setIfInBounds_toArray, List.set_cons_zero, List.set_cons_succ]
  have hfin := hG.fin (hall 11 (by decide))
  clear hG hall
  obtain ⟨Bw, hL, hS, _, _, _⟩ := hfin
  obtain ⟨ca, cc, hBw⟩ := own_form hL.bag
  obtain ⟨bl9, hbl9⟩ : ∃ bl9, bl9 = (x.eng.bag ++ [m]).length := ⟨_, rfl⟩
  have hBw2 : Bw = .slice ca bl9 cc := by rw [hbl9]; exact hBw
  clear hBw hbl9
  subst hBw2
  have HS := hide hS
  have p0 := hL.head.cell 0
  have p1 := hL.head.cell 1
  simp at p0 p1
  have HF := hide (step_fin hL HS.out (by have := Hz0.out; omega) HR.out.check HN.out (by rw [← Hstep.out]; exact HR.out.fit.step (Net.good_of_check HR.out.check) Her.out) Hstep.out.symm Her.out)
  have c7 := (HS.out.br.set 0 (.slice (some ⟨y.G, 0, none⟩) N y.gc)).set 1 (.slice ca bl9 cc)
  have e0 := c7.cell 0
  have e1 := c7.cell 1
  simp at e0 e1
  have r0 := HS.out.br.cell 0
  have r1 := HS.out.br.cell 1
  have fr0 := HS.out.br.frozen 0
  have fr1 := HS.out.br.frozen 1
  simp at r0 r1
  clear c7 hL hS
  go_wp2
  exact bodyPost_ret (v := .tuple #[.agg #[.slice (some ⟨y.G, 0, none⟩) N y.gc, .slice ca bl9 cc], .int .i64 0]) (by simp [results, Tryz.results10, go_sem, e0, e1]) rfl HF.out
 all_goals intro d t W hs ho hd hw hG hp K hK
 all_goals simp only [fill, Act.put, List.setIfInBounds_toArray, List.set_cons_zero, List.set_cons_succ] at hK ⊢
 ·rw [if_pos (by rfl)]
  go_simp
  exact hK _ _ hG (addE_put (by decide) (by decide) (by decide) rfl) (fun j _ _ h => h)
 ·have e0 := addE_get (hp 0 (hw 0 (by decide))) (by decide) (by decide) (by decide) rfl
  have ha := not_yet (F := 13) (S := 9) hs hd (by kernel_rfl)
  have hold := hG.old ha
  have cx := (HL2.out.below hold).head.cell 1
  simp at cx
  simp only [e0] at hK ⊢
  rw [if_pos (by rfl)]
  go_simp
  exact hK _ _ hG (addE_put (by decide) (by decide) (by decide) rfl) (fun j _ _ h => h)
 ·rw [if_pos (by rfl)]
  go_simp
  exact hK _ _ hG (addE_put (by decide) (by decide) (by decide) rfl) (fun j _ _ h => h)
 ·have e2 := addE_get (hp 2 (hw 2 (by decide))) (by decide) (by decide) (by decide) rfl
  have ha := not_yet (F := 13) (S := 9) hs hd (by kernel_rfl)
  have hold := hG.old ha
  have cx := (Hs2.out.keep hold).bx.cell 1
  rw [Hxc.out] at cx
  simp at cx
  rw [Hba.out] at cx
  simp only [e2] at hK ⊢
  rw [if_pos (by rfl)]
  go_simp
  exact hK _ _ hG (addE_put (by decide) (by decide) (by decide) rfl) (fun j _ _ h => h)
 ·rw [if_pos (by rfl)]
  go_simp
  exact hK _ _ hG (addE_put (by decide) (by decide) (by decide) rfl) (fun j _ _ h => h)
 ·have e4 := addE_get (hp 4 (hw 4 (by decide))) (by decide) (by decide) (by decide) rfl
  have ha := not_yet (F := 13) (S := 9) hs hd (by kernel_rfl)
  have hold := hG.old ha
  have cx := (Hs2.out.keep hold).bv.cell 1
  rw [Hvc.out] at cx
  simp at cx
  simp only [e4] at hK ⊢
  rw [if_pos (by rfl)]
  go_simp
  exact hK _ _ hG (addE_put (by decide) (by decide) (by decide) rfl) (fun j _ _ h => h)
 ·have e3 := addE_get (hp 3 (hw 3 (by decide))) (by decide) (by decide) (by decide) rfl
  have e5 := addE_get (hp 5 (hw 5 (by decide))) (by decide) (by decide) (by decide) rfl
  simp only [e3, e5] at hK ⊢
  rw [if_pos (by rfl)]
  go_simp
  exact hK _ _ hG (addE_put (by decide) (by decide) (by decide) rfl) (fun j _ _ h => h)
 ·have e6 := addE_get (hp 6 (hw 6 (by decide))) (by decide) (by decide) (by decide) rfl
  have ha := not_yet (F := 13) (S := 9) hs hd (by kernel_rfl)
  have hold := hG.old ha
  have c0 := (Hx.out.below (Hs2.out.keep hold).below (Nat.le_refl _)).bag.c0 k Hkb.out
  have c1 := (Hx.out.below (Hs2.out.keep hold).below (Nat.le_refl _)).bag.c1 k Hkb.out
  have c2 := (Hx.out.below (Hs2.out.keep hold).below (Nat.le_refl _)).bag.c2 k Hkb.out
  rw [← Hm.out] at c0 c1 c2
  simp only [e6] at hK ⊢
  rw [if_pos (by rfl)]
  go_simp
  exact hK _ _ hG (addE_put (by decide) (by decide) (by decide) rfl) (fun j _ _ h => h)
 ·have ha := not_yet (F := 13) (S := 9) hs hd (by kernel_rfl)
  have hold := hG.old ha
  have hS := not_yet (F := 13) (S := 11) hs hd (by kernel_rfl)
  have e7 := addE_get (hp 7 (hw 7 (by decide))) (by decide) (by decide) (by decide) rfl
  have h2 : AddG w n x v W0.heap.size P N x.eng m (.slice ba bl bc) y W2 false false W := by have h3 := hG; rw [ha, hS] at h3; exact h3
  simp only [e7] at hK ⊢
  rw [if_pos (by rfl)]
  go_simp
  have hBn : Below W.heap.size W (W.alloc (.cells #[.int .i64 m.F, .int .i64 m.T, .string ⟨m.b.toArray⟩] 69)) := (Below.refl _ W).alloc (Nat.le_refl _) _
  refine hK _ _ (by show AddG w n x v W0.heap.size P N x.eng m (.slice ba bl bc) y W2 (d 9) (d 11) _; rw [ha, hS]; exact h2.keep hBn) (addE_8.2 (fun _ => ⟨_, rfl, Blk.new W _ _⟩)) (fun j _ _ h => addE_keep hBn h)
 ·have hS := not_yet (F := 13) (S := 11) hs hd (by kernel_rfl)
  have h8 := addE_8.1 (hp 8 (hw 8 (by decide))) hd
  obtain ⟨g8, e8, hk8⟩ := h8
  have e1 := addE_get (hp 1 (hw 1 (by decide))) (by decide) (by decide) (by decide) rfl
  have h2 : AddG w n x v W0.heap.size P N x.eng m (.slice ba bl bc) y W2 false false W := by have h3 := hG; rw [hd, hS] at h3; exact h3
  obtain ⟨g9, c9, W9, hrun, hG9, ho9, hat9⟩ := h2.append HL2.out (by have := Hlen.out; omega) hk8 29
  simp only [e1] at hK ⊢
  simp only [e8] at hK ⊢
  rw [if_pos (by rfl)]
  refine wp_append_run (by rfl) _ _ 29 (by rfl) _ _ (by rfl) (by rfl) _ W9 hrun ?_
  refine hK _ W9 (by show AddG w n x v W0.heap.size P N x.eng m (.slice ba bl bc) y W2 (updB d 9 9) (d 11) W9; rw [hS, show updB d 9 9 = true by simp [updB]]; exact hG9) ((addE_9 (by decide)).2 (fun _ => ⟨g9, c9, rfl, ho9, hat9⟩)) (fun jj hj hdj h => ?_)
  have h' : addE [.pointer (some ⟨P, 1, none⟩), .slice ba bl bc, .pointer (some ⟨w.heap.size + 1, 1, none⟩), .slice (some ⟨x.bag.bb, x.bag.bo, none⟩) x.bag.bn x.bag.bc, .pointer (some ⟨w.heap.size + 1 + 1, 1, none⟩), .int .i64 (k : Int), .pointer (some ⟨x.bag.bb, x.bag.bo + k * 3, none⟩), .agg #[.int .i64 m.F, .int .i64 m.T, .string ⟨m.b.toArray⟩], undef, undef, .pointer (some ⟨P, 1, none⟩), undef] 8 9 11 W0.heap.size (x.eng).bag m (.slice ba bl bc) W2 false false jj (t jj) W := by have h2 := h; rw [hd, hS] at h2; exact h2
  show addE [.pointer (some ⟨P, 1, none⟩), .slice ba bl bc, .pointer (some ⟨w.heap.size + 1, 1, none⟩), .slice (some ⟨x.bag.bb, x.bag.bo, none⟩) x.bag.bn x.bag.bc, .pointer (some ⟨w.heap.size + 1 + 1, 1, none⟩), .int .i64 (k : Int), .pointer (some ⟨x.bag.bb, x.bag.bo + k * 3, none⟩), .agg #[.int .i64 m.F, .int .i64 m.T, .string ⟨m.b.toArray⟩], undef, undef, .pointer (some ⟨P, 1, none⟩), undef] 8 9 11 W0.heap.size (x.eng).bag m (.slice ba bl bc) W2 (updB d 9 9) (updB d 9 11) jj (t jj) W9
  rw [show updB d 9 9 = true by simp [updB], show updB d 9 11 = false from hS]
  exact addE_a W9 hj h'
 ·rw [if_pos (by rfl)]
  go_simp
  exact hK _ _ hG (addE_put (by decide) (by decide) (by decide) rfl) (fun j _ _ h => h)
 ·have h9 := done_back (F := 13) hs ho hw (S := 9) (by kernel_rfl) (by decide)
  have h9e := (addE_9 (by decide)).1 (hp 9 (hw 9 (by decide))) hd
  obtain ⟨g9, c9, e9, ho9, hat9⟩ := h9e
  have e10 := addE_get (hp 10 (hw 10 (by decide))) (by decide) (by decide) (by decide) rfl
  have h2 : AddG w n x v W0.heap.size P N x.eng m (.slice ba bl bc) y W2 true false W := by have h3 := hG; rw [h9, hd] at h3; exact h3
  have hh := h2.head HL2.out
  have cq := hh.cell 1
  have fq := hh.frozen 1
  simp at cq
  have hN := h2.store HL2.out Hs2.out (by have := Hz0.out; omega) ho9 hat9
  have HNE : Hid (∀ jj, addE [.pointer (some ⟨P, 1, none⟩), .slice ba bl bc, .pointer (some ⟨w.heap.size + 1, 1, none⟩), .slice (some ⟨x.bag.bb, x.bag.bo, none⟩) x.bag.bn x.bag.bc, .pointer (some ⟨w.heap.size + 1 + 1, 1, none⟩), .int .i64 (k : Int), .pointer (some ⟨x.bag.bb, x.bag.bo + k * 3, none⟩), .agg #[.int .i64 m.F, .int .i64 m.T, .string ⟨m.b.toArray⟩], undef, undef, .pointer (some ⟨P, 1, none⟩), undef] 8 9 11 W0.heap.size (x.eng).bag m (.slice ba bl bc) W2 (d 9) (d 11) jj (t jj) W → addE [.pointer (some ⟨P, 1, none⟩), .slice ba bl bc, .pointer (some ⟨w.heap.size + 1, 1, none⟩), .slice (some ⟨x.bag.bb, x.bag.bo, none⟩) x.bag.bn x.bag.bc, .pointer (some ⟨w.heap.size + 1 + 1, 1, none⟩), .int .i64 (k : Int), .pointer (some ⟨x.bag.bb, x.bag.bo + k * 3, none⟩), .agg #[.int .i64 m.F, .int .i64 m.T, .string ⟨m.b.toArray⟩], undef, undef, .pointer (some ⟨P, 1, none⟩), undef] 8 9 11 W0.heap.size (x.eng).bag m (.slice ba bl bc) W2 true true jj (t jj) (W.setCell ⟨P, 1, none⟩ (.slice (some ⟨g9, 0, none⟩) ((x.eng).bag.length + 1) c9))) := hide (fun jj h => by rw [h9, hd] at h; exact addE_s _ h)
  have HN := hide hN
  simp only [e10] at hK ⊢
  simp only [e9] at hK ⊢
  rw [if_pos (by rfl)]
  clear hN hh ho9 hat9
  go_simp
  refine hK undef _ (by show AddG w n x v W0.heap.size P N x.eng m (.slice ba bl bc) y W2 (d 9) (updB d 11 11) _; rw [h9, show updB d 11 11 = true by simp [updB]]; exact HN.out) (addE_S (by decide) (by decide)) (fun jj hj hdj h => ?_)
  show addE [.pointer (some ⟨P, 1, none⟩), .slice ba bl bc, .pointer (some ⟨w.heap.size + 1, 1, none⟩), .slice (some ⟨x.bag.bb, x.bag.bo, none⟩) x.bag.bn x.bag.bc, .pointer (some ⟨w.heap.size + 1 + 1, 1, none⟩), .int .i64 (k : Int), .pointer (some ⟨x.bag.bb, x.bag.bo + k * 3, none⟩), .agg #[.int .i64 m.F, .int .i64 m.T, .string ⟨m.b.toArray⟩], undef, undef, .pointer (some ⟨P, 1, none⟩), undef] 8 9 11 W0.heap.size (x.eng).bag m (.slice ba bl bc) W2 (d 9) (updB d 11 11) jj (t jj) _
  rw [h9, show updB d 11 11 = true by simp [updB]]
  exact HNE.out jj h

end Go.Proofs.YtjhkadffaephmabGreat

/-
 signpostref.StepOf: mail is lost.
-/
namespace Go.Proofs.YtjhkadffaephmabGreat
set_option maxRecDepth 100000
open Go.RowKit

set_option maxHeartbeats 16000000 in
theorem stepOf_lose (n : NetM) (x : EngM) (v : EvM) (N : Nat) (w : World) (h : n.In w.heap.size w) (hx : x.In w.heap.size w) (hv : v.In w.heap.size w) (hN : n.nodes = N) (hR : x.Right n.net N) (hcap : x.bag.bn ≤ x.bag.bc) (k : Nat) (hk : v.loc = (k : Int)) (hkd : v.kind = 4) (hkb : k < x.bag.bn) :
  Calls Tryz.prog 10 #[n.val, x.val, v.val] w fun r w' => StepRef n.net x v.ev w r w' := by
 obtain ⟨hN0, hN6, hNN, hnn⟩ := nodes_six hR.check hN
 have hnn' : n.net.nodes = n.nodes := rfl
 have hlen : x.eng.bag.length = x.bag.bn := by show ((List.range x.bag.bn).map x.bag.M).length = _; simp
 have hbn := hR.bn
 have herr : x.eng.stepErr n.net v.ev = 0 := Eng.err_lose (v := v.ev) hkd (show 0 ≤ v.loc by omega) (show v.loc < (x.eng.bag.length : Int) by omega)
 have hstep : x.eng.without k = x.eng.step n.net v.ev := by rw [Eng.does_lose (v := v.ev) hkd]; show _ = x.eng.without v.loc.toNat; rw [hk]; rfl
 have Herr := hide herr
 have Hstep := hide hstep
 have HW := hide (fun W (hb : Below w.heap.size w W) => refWithout_any x N k W (hx.grown hb) hR.gn hN0 hN6 hR.bn hR.rl hR.tl hR.ll hkb hcap)
 simp only [EngM.val, EngM.cells] at HW
 clear herr hstep
 obtain ⟨W0, hW0⟩ : ∃ W0, W0 = (((w.alloc (.cells n.cells 27)).alloc (.cells x.cells 31)).alloc (.cells v.cells 34)).alloc (.cells #[.slice none 0 0, .slice none 0 0] 31) := ⟨_, rfl⟩
 have hs0 : SB w n x v W0 := by rw [hW0]; exact SB.start w n x v
 have hz0 : W0.heap.size = w.heap.size + 4 := by rw [hW0]; simp
 have hnc : n.cells = #[.int .i64 n.a.size, .slice n.a.B.ga n.a.B.t.len n.a.B.cap, .slice n.a.E.ga n.a.E.t.len n.a.E.cap, .int .i64 N, .slice n.la n.ln n.lc] := by simp only [NetM.cells, Mat.val, hN]
 have hvc : v.cells = #[.int .i64 4, .int .i64 (k : Int), .int .i64 v.b, .int .i64 v.c, .slice v.ra v.rl v.rc] := by rw [← hkd, ← hk]; rfl
 have hxc : x.cells = #[.slice x.rs.ga x.rs.gn x.rs.gc, .slice x.bag.ba x.bag.bn x.bag.bc] := rfl
 have H := hide h
 have Hx := hide hx
 have Hv := hide hv
 have HR := hide hR
 have Hs0 := hide hs0
 have Hz0 := hide hz0
 have Hnc := hide hnc
 have Hvc := hide hvc
 have Hxc := hide hxc
 have HN := hide hN
 have Hlen := hide hlen
 have Hnn := hide hnn
 have HNN := hide hNN
 have Hkd := hide hkd
 have Hk := hide hk
 rw [hnc, hvc, hxc] at hW0
 simp only [NetM.val, EngM.val, EvM.val, hnc, hvc, hxc]
 have HW0 := hide hW0
 have v0 := Hs0.out.bv.cell 0
 have v1 := Hs0.out.bv.cell 1
 have v2 := Hs0.out.bv.cell 2
 have v3 := Hs0.out.bv.cell 3
 have v4 := Hs0.out.bv.cell 4
 rw [Hvc.out] at v0 v1 v2 v3 v4
 simp at v0 v1 v2 v3 v4
 have n0 := Hs0.out.bn.cell 0
 have n1 := Hs0.out.bn.cell 1
 have n2 := Hs0.out.bn.cell 2
 have n3 := Hs0.out.bn.cell 3
 have n4 := Hs0.out.bn.cell 4
 rw [Hnc.out] at n0 n1 n2 n3 n4
 simp at n0 n1 n2 n3 n4
 have x0 := Hs0.out.bx.cell 0
 have x1 := Hs0.out.bx.cell 1
 rw [Hxc.out] at x0 x1
 simp at x0 x1
 clear h hx hv hR hs0 hz0 hnc hvc hxc hN hW0 hlen hnn hNN hkd hnn' hk 
 go_enter Tryz.func10, Tryz.ntmps10
 go_wp2_with fail
 rw [← HW0.out]
 go_at_call 24
 refine (between_any _ _ _ _).mono ?_
 rintro e w1 ⟨rfl, hw1⟩
 rw [hw1]
 clear hw1
 have hb1 : (decide ((1 : Int) ≤ 4) && decide ((4 : Int) ≤ 7)) = true := by decide
 rw [hb1]
 clear hb1
 go_wp2_with fail
 go_at_call 24
 refine (between_any _ _ _ _).mono ?_
 rintro e w1 ⟨rfl, hw1⟩
 rw [hw1]
 clear hw1
 have hb2 : (decide ((2 : Int) ≤ 4) && decide ((4 : Int) ≤ 5)) = true := by decide
 rw [hb2]
 clear hb2
 go_wp2_with fail
 go_at_call 24
 refine (between_any _ _ _ _).mono ?_
 rintro e w1 ⟨rfl, hw1⟩
 rw [hw1]
 clear hw1
 have hb3 : (decide (0 ≤ (k : Int)) && decide ((k : Int) ≤ (x.bag.bn : Int) - 1)) = true := by simp; omega
 rw [hb3]
 clear hb3
 have HC := hide (HW.out W0 Hs0.out.below)
 clear HW
 go_wp2_with fail
 go_at_call 33
 refine HC.out.mono ?_
 rintro r W1 ⟨⟨P, Bv, y, hL, rfl⟩, hb1⟩
 have Hs1 := hide (Hs0.out.keep hb1)
 obtain ⟨ba, bc, hBv⟩ := own_form hL.live.bag
 have g := Net.good_of_check HR.out.check
 have HF := hide (step_fin hL.live Hs1.out (by have := Hz0.out; omega) HR.out.check HN.out (HR.out.fit.without k) Hstep.out Herr.out)
 have hBl := hL.live.bag
 have hb6 := Hs1.out.br
 have c7 := (hb6.set 0 (.slice (some ⟨y.G, 0, none⟩) N y.gc)).set 1 Bv
 have e0 := c7.cell 0
 have e1 := c7.cell 1
 simp at e0 e1
 have r0 := Hs1.out.br.cell 0
 have r1 := Hs1.out.br.cell 1
 have fr0 := Hs1.out.br.frozen 0
 have fr1 := Hs1.out.br.frozen 1
 simp at r0 r1
 rw [hBv] at HF e0 e1
 rw [hBv]
 generalize (x.eng.without k).bag.length = bl at *
 clear hL hb1 HC hBv hBl hb6 c7 v0 v1 v2 v3 v4 n0 n1 n2 n3 n4 x0 x1 g
 go_wp2
 exact bodyPost_ret (v := .tuple #[.agg #[.slice (some ⟨y.G, 0, none⟩) N y.gc, .slice ba bl bc], .int .i64 0]) (by simp [results, Tryz.results10, go_sem, e0, e1]) rfl HF.out

end Go.Proofs.YtjhkadffaephmabGreat

/-
  Bits that one of two bytes has, but not both: bit by bit.
-/
namespace Go.Proofs.YtjhkadffaephmabGreat

def xorSum (a b : Nat) : Nat → Nat
  | 0 => 0
  | k + 1 => xorSum a b k + if a / 2 ^ k % 2 ≠ b / 2 ^ k % 2 then 2 ^ k else 0
theorem xor_bit (a b k : Nat) : (a ^^^ b) / 2 ^ k % 2 = if a / 2 ^ k % 2 ≠ b / 2 ^ k % 2 then 1 else 0 := by
  have h : (a ^^^ b).testBit k = (a.testBit k != b.testBit k) := Nat.testBit_xor a b k
  rw [Nat.testBit_eq_decide_div_mod_eq, Nat.testBit_eq_decide_div_mod_eq, Nat.testBit_eq_decide_div_mod_eq] at h
  have h1 := Nat.mod_two_eq_zero_or_one ((a ^^^ b) / 2 ^ k)
  have h2 := Nat.mod_two_eq_zero_or_one (a / 2 ^ k)
  have h3 := Nat.mod_two_eq_zero_or_one (b / 2 ^ k)
  rcases h1 with h1 | h1 <;> rcases h2 with h2 | h2 <;> rcases h3 with h3 | h3 <;> simp [h1, h2, h3] at h ⊢
theorem xorSum_mod (a b : Nat) : ∀ k, xorSum a b k = (a ^^^ b) % 2 ^ k
  | 0 => by simp [xorSum, Nat.mod_one]
  | k + 1 => by
    show xorSum a b k + _ = _
    rw [xorSum_mod a b k, Nat.mod_pow_succ, xor_bit a b k]
    split <;> simp
theorem xorSum_byte {a b : Nat} (ha : a < 256) (hb : b < 256) : xorSum a b 8 = a ^^^ b := by
  rw [xorSum_mod]
  exact Nat.mod_eq_of_lt (Nat.xor_lt_two_pow (n := 8) ha hb)
theorem xorSum_lt (a b k : Nat) : xorSum a b k < 2 ^ k := by
  rw [xorSum_mod]
  exact Nat.mod_lt _ (Nat.two_pow_pos k)

end Go.Proofs.YtjhkadffaephmabGreat
