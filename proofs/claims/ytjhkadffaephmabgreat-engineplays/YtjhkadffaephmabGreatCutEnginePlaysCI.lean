/-
  Our own texts, bundled: a claim holds few files.
-/
import Derived.Test.YtjhkadffaephmabGreatCutEnginePlaysCD
import Derived.Test.YtjhkadffaephmabGreatCutEnginePlaysCH
import Derived.Test.YtjhkadffaephmabGreatCutEnginePlaysBF
import Derived.Test.YtjhkadffaephmabGreatCutEnginePlaysCE
import Derived.Test.YtjhkadffaephmabGreatCutEnginePlaysAJ
import Derived.Test.YtjhkadffaephmabGreatCutEnginePlaysCA
/-
 signpostref.StepOf: mail is spoilt.
-/
namespace Go.Proofs.YtjhkadffaephmabGreat
set_option maxRecDepth 100000
open Go.RowKit

theorem set_parts (l : List UInt8) {pl : Nat} (h : pl < l.length) (u : UInt8) : (ByteArray.mk l.toArray).extract 0 pl ++ ByteArray.mk [u].toArray ++ (ByteArray.mk l.toArray).extract (pl + 1) l.length = ByteArray.mk (l.set pl u).toArray := by
 rw [ByteArray.extract_mk, ByteArray.extract_mk, ByteArray.mk_append_mk, ByteArray.mk_append_mk]
 congr 2
 have hd : (l.drop (pl + 1)).take (l.length - (pl + 1)) = l.drop (pl + 1) := List.take_of_length_le (by simp)
 rw [List.set_eq_take_append_cons_drop, if_pos h, List.drop_zero, Nat.sub_zero, hd]
 simp
theorem spoilt_byte (x : UInt8) {c : Nat} (h : c ≤ 255) : u8 ((xorSum x.toNat c 8 : Nat) : Int) = x ^^^ u8 (c : Int) := by
 have hx := x.toNat_lt
 have h1 := xorSum_lt x.toNat c 8
 have h2 : ((u8 ((xorSum x.toNat c 8 : Nat) : Int)).toNat : Int) = _ := u8_toNat (by omega) (by omega)
 have h3 : ((u8 (c : Int)).toNat : Int) = _ := u8_toNat (by omega) (by omega)
 refine UInt8.toNat_inj.1 ?_
 rw [UInt8.toNat_xor, show (u8 (c : Int)).toNat = c by omega, ← xorSum_byte (a := x.toNat) (b := c) (by omega) (by omega)]
 omega
theorem conv_one (W : World) {g : Nat} {xs : Nat} (hx : xs < 256) (hb : Blk W g #[.int .u8 (xs : Int)] 5) :
  (convert 80 9 (.slice (some ⟨g, 0, none⟩) 1 1)).run Tryz.prog W = .ok (.string (ByteArray.mk [u8 (xs : Int)].toArray)) W := by
 refine run_convert_bytes_back (P := Tryz.prog) W 80 9 5 ⟨g, 0, none⟩ 1 [u8 (xs : Int)] Tryz.underlying80 Tryz.underlying5 Tryz.underlying9 (fun j hj => ?_)
 obtain rfl : j = 0 := by simpa using hj
 rw [Go.WideShapes.add_plain, hb.cell]
 have := u8_toNat (x := (xs : Int)) (by omega) (by omega)
 simp [this]
def spE (vs : List Value) (xs q : Nat) (v : Value) (W : World) : Prop :=
 if q = 11 then ∃ g, v = .slice (some ⟨g, 0, none⟩) 1 1 ∧ Blk W g #[.int .u8 (xs : Int)] 5 else vs[q]? = some v
theorem spE_keep {vs : List Value} {xs q : Nat} {v : Value} {W W' : World} (hb : Below W.heap.size W W') (h : spE vs xs q v W) : spE vs xs q v W' := by
 unfold spE at h ⊢
 split
 ·next e => rw [if_pos e] at h; obtain ⟨g, h1, h2⟩ := h; exact ⟨g, h1, h2.below hb h2.lt⟩
 ·next e => rw [if_neg e] at h; exact h
theorem spE_put {vs : List Value} {xs q : Nat} {v : Value} {W : World} (hq : q ≠ 11) (h : vs[q]? = some v) : spE vs xs q v W := by unfold spE; rw [if_neg hq]; exact h
theorem spE_get {vs : List Value} {xs q : Nat} {v u : Value} {W : World} (h : spE vs xs q v W) (hq : q ≠ 11) (hu : vs[q]? = some u) : v = u := by
 unfold spE at h; rw [if_neg hq, hu] at h; exact (Option.some.inj h).symm
theorem spE_11 {vs : List Value} {xs : Nat} {v : Value} {W : World} : spE vs xs 11 v W ↔ ∃ g, v = .slice (some ⟨g, 0, none⟩) 1 1 ∧ Blk W g #[.int .u8 (xs : Int)] 5 := by unfold spE; rw [if_pos rfl]

set_option maxHeartbeats 16000000 in
theorem stepOf_spoilNo (n : NetM) (x : EngM) (v : EvM) (N : Nat) (w : World) (h : n.In w.heap.size w) (hx : x.In w.heap.size w) (hv : v.In w.heap.size w) (hN : n.nodes = N) (hR : x.Right n.net N) (_hcap : x.bag.bn ≤ x.bag.bc) (k : Nat) (hk : v.loc = (k : Int)) (hkd : v.kind = 5) (hkb : k < x.bag.bn) (hbad : (v.b < 0 ∨ ((x.bag.M k).b.length : Int) ≤ v.b) ∨ (v.c < 1 ∨ 255 < v.c)) :
  Calls Tryz.prog 10 #[n.val, x.val, v.val] w fun r w' => StepRef n.net x v.ev w r w' := by
 obtain ⟨hN0, hN6, hNN, hnn⟩ := nodes_six hR.check hN
 have hnn' : n.net.nodes = n.nodes := rfl
 have hlen : x.eng.bag.length = x.bag.bn := by show ((List.range x.bag.bn).map x.bag.M).length = _; simp
 have hbn := hR.bn
 obtain ⟨m, hm⟩ : ∃ m, m = x.bag.M k := ⟨_, rfl⟩
 have hget : x.eng.bag.getD k noMail = m := by rw [hm]; exact mails_at x.bag.M x.bag.bn k hkb
 obtain ⟨L, hL⟩ : ∃ L, L = m.b.length := ⟨_, rfl⟩
 obtain ⟨s, hs⟩ : ∃ s, s = ByteArray.mk m.b.toArray := ⟨_, rfl⟩
 have hsz : s.size = L := by rw [hs, hL]; simp [ByteArray.size]
 have hfm := hR.fit.mail m (by rw [← hget]; exact getD_mem (by rw [hlen]; exact hkb))
 have hL60 : L ≤ 60 := by rw [hL]; exact hfm.2.2
 have HerrG : x.eng.stepErr n.net v.ev = if (v.b < 0 ∨ (L : Int) ≤ v.b) ∨ (v.c < 1 ∨ 255 < v.c) then 3 else 0 := by
  have hl9 : (x.eng.bag.getD v.ev.loc.toNat noMail).b.length = L := by
   show (x.eng.bag.getD v.loc.toNat noMail).b.length = L
   rw [hk]
   show (x.eng.bag.getD k noMail).b.length = L
   rw [hget, hL]
  rw [Eng.err_spoil (v := v.ev) hkd (show 0 ≤ v.loc by omega) (show v.loc < (x.eng.bag.length : Int) by omega), hl9]
  rfl
 have Hba : Hid (x.bag.ba = some ⟨x.bag.bb, x.bag.bo, none⟩) := hide (hx.bag.ba (by omega))
 have hki : (k : Int) < (x.bag.bn : Int) := by omega
 have Hm := hide hm
 have Hs := hide hs
 have HLl := hide hL
 rw [← hm, ← hL] at hbad
 have Her : Hid (x.eng.stepErr n.net v.ev = 3) := hide (by rw [HerrG, if_pos hbad])
 clear hget hfm HerrG hm hs hL
 obtain ⟨W0, hW0⟩ : ∃ W0, W0 = (((w.alloc (.cells n.cells 27)).alloc (.cells x.cells 31)).alloc (.cells v.cells 34)).alloc (.cells #[.slice none 0 0, .slice none 0 0] 31) := ⟨_, rfl⟩
 have hs0 : SB w n x v W0 := by rw [hW0]; exact SB.start w n x v
 have hz0 : W0.heap.size = w.heap.size + 4 := by rw [hW0]; simp
 have hnc : n.cells = #[.int .i64 n.a.size, .slice n.a.B.ga n.a.B.t.len n.a.B.cap, .slice n.a.E.ga n.a.E.t.len n.a.E.cap, .int .i64 N, .slice n.la n.ln n.lc] := by simp only [NetM.cells, Mat.val, hN]
 have hvc : v.cells = #[.int .i64 5, .int .i64 (k : Int), .int .i64 v.b, .int .i64 v.c, .slice v.ra v.rl v.rc] := by rw [← hkd, ← hk]; rfl
 have hxc : x.cells = #[.slice x.rs.ga x.rs.gn x.rs.gc, .slice x.bag.ba x.bag.bn x.bag.bc] := rfl
 have H := hide h
 have Hx := hide hx
 have Hv := hide hv
 have HR := hide hR
 have Hs0 := hide hs0
 have Hz0 := hide hz0
 have Hnc := hide hnc
 have Hvc := hide hvc
 have Hxc := hide hxc
 have HN := hide hN
 have Hlen := hide hlen
 have Hnn := hide hnn
 have HNN := hide hNN
 have Hkd := hide hkd
 have Hk := hide hk
 have HIs := hide (fun (i : Int) (W : World) => isNode_any n i W (by omega) (by omega))
 simp only [NetM.val, hnc, hN] at HIs
 rw [hnc, hvc, hxc] at hW0
 simp only [NetM.val, EngM.val, EvM.val, hnc, hvc, hxc]
 have HW0 := hide hW0
 have v0 := Hs0.out.bv.cell 0
 have v1 := Hs0.out.bv.cell 1
 have v2 := Hs0.out.bv.cell 2
 have v3 := Hs0.out.bv.cell 3
 have v4 := Hs0.out.bv.cell 4
 rw [Hvc.out] at v0 v1 v2 v3 v4
 simp at v0 v1 v2 v3 v4
 have n0 := Hs0.out.bn.cell 0
 have n1 := Hs0.out.bn.cell 1
 have n2 := Hs0.out.bn.cell 2
 have n3 := Hs0.out.bn.cell 3
 have n4 := Hs0.out.bn.cell 4
 rw [Hnc.out] at n0 n1 n2 n3 n4
 simp at n0 n1 n2 n3 n4
 have x0 := Hs0.out.bx.cell 0
 have x1 := Hs0.out.bx.cell 1
 rw [Hxc.out] at x0 x1
 simp at x0 x1
 clear h hx hv hR hs0 hz0 hnc hvc hxc hN hW0 hlen hnn hNN hnn' hkd hk 
 go_enter Tryz.func10, Tryz.ntmps10
 go_wp2_with fail
 rw [← HW0.out]
 go_at_call 24
 refine (between_any _ _ _ _).mono ?_
 rintro e w1 ⟨rfl, hw1⟩
 rw [hw1]
 clear hw1
 have hb1 : (decide ((1 : Int) ≤ 5) && decide ((5 : Int) ≤ 7)) = true := by decide
 rw [hb1]
 clear hb1
 go_wp2_with fail
 go_at_call 24
 refine (between_any _ _ _ _).mono ?_
 rintro e w1 ⟨rfl, hw1⟩
 rw [hw1]
 clear hw1
 have hb2 : (decide ((2 : Int) ≤ 5) && decide ((5 : Int) ≤ 5)) = true := by decide
 rw [hb2]
 clear hb2
 go_wp2_with fail
 go_at_call 24
 refine (between_any _ _ _ _).mono ?_
 rintro e w1 ⟨rfl, hw1⟩
 rw [hw1]
 clear hw1
 have hb3 : (decide (0 ≤ (k : Int)) && decide ((k : Int) ≤ (x.bag.bn : Int) - 1)) = true := by simp; omega
 rw [hb3]
 clear hb3
 have c0 := (Hx.out.below Hs0.out.below (Nat.le_refl _)).bag.c0 k hkb
 have c1 := (Hx.out.below Hs0.out.below (Nat.le_refl _)).bag.c1 k hkb
 have c2 := (Hx.out.below Hs0.out.below (Nat.le_refl _)).bag.c2 k hkb
 rw [← Hm.out] at c0 c1 c2
 rw [← Hs.out] at c2
 rw [Hba.out] at x1
 obtain ⟨q19, hq19⟩ : ∃ q19, q19 = W0.heap.size := ⟨_, rfl⟩
 obtain ⟨W1, hW1⟩ : ∃ W1, W1 = W0.alloc (.cells #[.int .i64 m.F, .int .i64 m.T, .string s] 69) := ⟨_, rfl⟩
 have hb1 : Below W0.heap.size W0 W1 := by rw [hW1]; exact (Below.refl _ W0).alloc (Nat.le_refl _) _
 have Hs1 := hide (Hs0.out.keep hb1)
 have Hm1 : Hid (Blk W1 q19 #[.int .i64 m.F, .int .i64 m.T, .string s] 69) := hide (by rw [hW1]; exact Blk.new' hq19)
 have Hz1 : Hid (w.heap.size + 4 ≤ W1.heap.size) := hide (by have := hb1.size; have := Hz0.out; omega)
 have va : ∀ o, (W0.alloc o).cell? ⟨w.heap.size + 2, 2, none⟩ = some (.int .i64 v.b) := fun o => by have := (Hs0.out.bv.alloc o).cell 2; rw [Hvc.out] at this; simpa using this
 have vb : ∀ o, (W0.alloc o).cell? ⟨w.heap.size + 2, 3, none⟩ = some (.int .i64 v.c) := fun o => by have := (Hs0.out.bv.alloc o).cell 3; rw [Hvc.out] at this; simpa using this
 have HW1 := hide hW1
 have Hq19 := hide hq19
 clear hb1 hW1 hq19
 go_wp2_with fail
 go_at_call 24
 refine (between_any _ _ _ _).mono ?_
 rintro e w1 ⟨rfl, hw1⟩
 rw [hw1]
 clear hw1
 by_cases h1 : 0 ≤ v.b ∧ v.b < (L : Int)
 rotate_left
 ·have hb4 : (decide (0 ≤ v.b) && decide (v.b ≤ (L : Int) - 1)) = false := by simp; omega
  rw [hb4]
  clear hb4 hbad h1
  rw [← HW1.out]
  have HF := hide (step_no (er := 3) Hs1.out (Her.out) (by decide))
  have c7 := (Hs1.out.br.set 0 (.slice none 0 0)).set 1 (.slice none 0 0)
  have e0 := c7.cell 0
  have e1 := c7.cell 1
  simp at e0 e1
  have r0 := Hs1.out.br.cell 0
  have r1 := Hs1.out.br.cell 1
  have fr0 := Hs1.out.br.frozen 0
  have fr1 := Hs1.out.br.frozen 1
  simp at r0 r1
  clear c7
  go_wp2
  exact bodyPost_ret (v := .tuple #[.agg #[.slice none 0 0, .slice none 0 0], .int .i64 3]) (by simp [results, Tryz.results10, go_sem, e0, e1]) rfl HF.out
 have hb4 : (decide (0 ≤ v.b) && decide (v.b ≤ (L : Int) - 1)) = true := by simp; omega
 rw [hb4]
 clear hb4
 go_wp2_with fail
 go_at_call 24
 refine (between_any _ _ _ _).mono ?_
 rintro e w1 ⟨rfl, hw1⟩
 rw [hw1]
 clear hw1
 have hb5 : (decide (1 ≤ v.c) && decide (v.c ≤ 255)) = false := by simp; omega
 rw [hb5]
 clear hb5 hbad h1
 rw [← HW1.out]
 have HF := hide (step_no (er := 3) Hs1.out (Her.out) (by decide))
 have c7 := (Hs1.out.br.set 0 (.slice none 0 0)).set 1 (.slice none 0 0)
 have e0 := c7.cell 0
 have e1 := c7.cell 1
 simp at e0 e1
 have r0 := Hs1.out.br.cell 0
 have r1 := Hs1.out.br.cell 1
 have fr0 := Hs1.out.br.frozen 0
 have fr1 := Hs1.out.br.frozen 1
 simp at r0 r1
 clear c7
 go_wp2
 exact bodyPost_ret (v := .tuple #[.agg #[.slice none 0 0, .slice none 0 0], .int .i64 3]) (by simp [results, Tryz.results10, go_sem, e0, e1]) rfl HF.out

set_option maxHeartbeats 16000000 in
theorem stepOf_spoil (n : NetM) (x : EngM) (v : EvM) (N : Nat) (w : World) (h : n.In w.heap.size w) (hx : x.In w.heap.size w) (hv : v.In w.heap.size w) (hN : n.nodes = N) (hR : x.Right n.net N) (_hcap : x.bag.bn ≤ x.bag.bc) (k : Nat) (hk : v.loc = (k : Int)) (hkd : v.kind = 5) (hkb : k < x.bag.bn) (pl cv : Nat) (hpl : v.b = (pl : Int)) (hcv : v.c = (cv : Int)) (hlt : pl < (x.bag.M k).b.length) (hc1 : 1 ≤ cv) (hc2 : cv ≤ 255) :
  Calls Tryz.prog 10 #[n.val, x.val, v.val] w fun r w' => StepRef n.net x v.ev w r w' := by
 obtain ⟨hN0, hN6, hNN, hnn⟩ := nodes_six hR.check hN
 have hnn' : n.net.nodes = n.nodes := rfl
 have hlen : x.eng.bag.length = x.bag.bn := by show ((List.range x.bag.bn).map x.bag.M).length = _; simp
 have hbn := hR.bn
 obtain ⟨m, hm⟩ : ∃ m, m = x.bag.M k := ⟨_, rfl⟩
 have hget : x.eng.bag.getD k noMail = m := by rw [hm]; exact mails_at x.bag.M x.bag.bn k hkb
 obtain ⟨L, hL⟩ : ∃ L, L = m.b.length := ⟨_, rfl⟩
 obtain ⟨s, hs⟩ : ∃ s, s = ByteArray.mk m.b.toArray := ⟨_, rfl⟩
 have hsz : s.size = L := by rw [hs, hL]; simp [ByteArray.size]
 have hfm := hR.fit.mail m (by rw [← hget]; exact getD_mem (by rw [hlen]; exact hkb))
 have hL60 : L ≤ 60 := by rw [hL]; exact hfm.2.2
 have HerrG : x.eng.stepErr n.net v.ev = if (v.b < 0 ∨ (L : Int) ≤ v.b) ∨ (v.c < 1 ∨ 255 < v.c) then 3 else 0 := by
  have hl9 : (x.eng.bag.getD v.ev.loc.toNat noMail).b.length = L := by
   show (x.eng.bag.getD v.loc.toNat noMail).b.length = L
   rw [hk]
   show (x.eng.bag.getD k noMail).b.length = L
   rw [hget, hL]
  rw [Eng.err_spoil (v := v.ev) hkd (show 0 ≤ v.loc by omega) (show v.loc < (x.eng.bag.length : Int) by omega), hl9]
  rfl
 have Hba : Hid (x.bag.ba = some ⟨x.bag.bb, x.bag.bo, none⟩) := hide (hx.bag.ba (by omega))
 have hki : (k : Int) < (x.bag.bn : Int) := by omega
 have Hm := hide hm
 have Hs := hide hs
 have HLl := hide hL
 rw [← hm, ← hL] at hlt
 have Herr : Hid (x.eng.stepErr n.net v.ev = 0) := hide (by rw [HerrG, if_neg (by omega)])
 obtain ⟨av, hav⟩ : ∃ av, av = (m.b.getD pl 0).toNat := ⟨_, rfl⟩
 have ha256 : av < 256 := by rw [hav]; exact (m.b.getD pl 0).toNat_lt
 obtain ⟨xs, hxs⟩ : ∃ xs, xs = xorSum av cv 8 := ⟨_, rfl⟩
 have Hxse : Hid (xorSum av cv 8 = xs) := hide hxs.symm
 have Hx8 : Hid (xs < 256) := hide (by rw [hxs]; exact xorSum_lt av cv 8)
 have Hg : Hid (∀ h : pl < s.size, (s[pl]'h).toNat = av) := hide (fun h => by subst hs; rw [read_idx h, hav])
 have Hstep : Hid (x.eng.step n.net v.ev = { x.eng with bag := x.eng.bag.set k { x.eng.bag.getD k noMail with b := m.b.set pl (m.b.getD pl 0 ^^^ u8 (cv : Int)) } }) := hide (by
  rw [Eng.does_spoil (v := v.ev) hkd]
  show x.eng.spoil v.loc.toNat v.b.toNat (u8 v.c) = _
  rw [hk, hpl, hcv]
  show x.eng.spoil k pl (u8 (cv : Int)) = _
  unfold Eng.spoil Mail.spoil
  rw [hget])
 obtain ⟨sA, hsA⟩ : ∃ sA, sA = s.extract 0 pl := ⟨_, rfl⟩
 obtain ⟨sB, hsB⟩ : ∃ sB, sB = ByteArray.mk [u8 (xs : Int)].toArray := ⟨_, rfl⟩
 obtain ⟨sC, hsC⟩ : ∃ sC, sC = s.extract (pl + 1) L := ⟨_, rfl⟩
 obtain ⟨sAB, hsAB⟩ : ∃ sAB, sAB = sA ++ sB := ⟨_, rfl⟩
 obtain ⟨s2, hs2⟩ : ∃ s2, s2 = sAB ++ sC := ⟨_, rfl⟩
 have Hs2' : Hid (s2 = ByteArray.mk (m.b.set pl (m.b.getD pl 0 ^^^ u8 (cv : Int))).toArray) := hide (by
  rw [hs2, hsAB, hsA, hsB, hsC, hs, hL, ← set_parts m.b (by omega), hxs, hav, spoilt_byte _ (by omega)])
 have HA : Hid (s.extract 0 pl = sA) := hide hsA.symm
 have HC2 : Hid (s.extract (pl + 1) L = sC) := hide hsC.symm
 have HAB : Hid (sA ++ sB = sAB) := hide hsAB.symm
 have HS2 : Hid (sAB ++ sC = s2) := hide hs2.symm
 have HsBd : Hid (sB = ByteArray.mk [u8 (xs : Int)].toArray) := hide hsB
 have HsA : Hid (sA.size = pl) := hide (by rw [hsA, ByteArray.size_extract]; omega)
 have HsB : Hid (sB.size = 1) := hide (by rw [hsB]; rfl)
 have HsC : Hid (sC.size = L - (pl + 1) ∧ sAB.size = pl + 1) := hide ⟨by rw [hsC, ByteArray.size_extract]; omega, by rw [hsAB, ByteArray.size_append, HsA.out, HsB.out]⟩
 have hpli : (pl : Int) < (L : Int) := by omega
 clear hget hfm HerrG hm hs hL hav hxs hsA hsB hsC hsAB hs2
 have HCp := hide (fun W (hb : Below w.heap.size w W) => refCopied_any x N W (hx.grown hb) hR.gn hN0 hN6 hR.bn hR.rl hR.tl hR.ll)
 simp only [EngM.val, EngM.cells] at HCp
 obtain ⟨W0, hW0⟩ : ∃ W0, W0 = (((w.alloc (.cells n.cells 27)).alloc (.cells x.cells 31)).alloc (.cells v.cells 34)).alloc (.cells #[.slice none 0 0, .slice none 0 0] 31) := ⟨_, rfl⟩
 have hs0 : SB w n x v W0 := by rw [hW0]; exact SB.start w n x v
 have hz0 : W0.heap.size = w.heap.size + 4 := by rw [hW0]; simp
 have hnc : n.cells = #[.int .i64 n.a.size, .slice n.a.B.ga n.a.B.t.len n.a.B.cap, .slice n.a.E.ga n.a.E.t.len n.a.E.cap, .int .i64 N, .slice n.la n.ln n.lc] := by simp only [NetM.cells, Mat.val, hN]
 have hvc : v.cells = #[.int .i64 5, .int .i64 (k : Int), .int .i64 (pl : Int), .int .i64 (cv : Int), .slice v.ra v.rl v.rc] := by rw [← hkd, ← hk, ← hpl, ← hcv]; rfl
 have hxc : x.cells = #[.slice x.rs.ga x.rs.gn x.rs.gc, .slice x.bag.ba x.bag.bn x.bag.bc] := rfl
 have H := hide h
 have Hx := hide hx
 have Hv := hide hv
 have HR := hide hR
 have Hs0 := hide hs0
 have Hz0 := hide hz0
 have Hnc := hide hnc
 have Hvc := hide hvc
 have Hxc := hide hxc
 have HN := hide hN
 have Hlen := hide hlen
 have Hnn := hide hnn
 have HNN := hide hNN
 have Hkd := hide hkd
 have Hk := hide hk
 have HIs := hide (fun (i : Int) (W : World) => isNode_any n i W (by omega) (by omega))
 simp only [NetM.val, hnc, hN] at HIs
 rw [hnc, hvc, hxc] at hW0
 simp only [NetM.val, EngM.val, EvM.val, hnc, hvc, hxc]
 have HW0 := hide hW0
 have v0 := Hs0.out.bv.cell 0
 have v1 := Hs0.out.bv.cell 1
 have v2 := Hs0.out.bv.cell 2
 have v3 := Hs0.out.bv.cell 3
 have v4 := Hs0.out.bv.cell 4
 rw [Hvc.out] at v0 v1 v2 v3 v4
 simp at v0 v1 v2 v3 v4
 have n0 := Hs0.out.bn.cell 0
 have n1 := Hs0.out.bn.cell 1
 have n2 := Hs0.out.bn.cell 2
 have n3 := Hs0.out.bn.cell 3
 have n4 := Hs0.out.bn.cell 4
 rw [Hnc.out] at n0 n1 n2 n3 n4
 simp at n0 n1 n2 n3 n4
 have x0 := Hs0.out.bx.cell 0
 have x1 := Hs0.out.bx.cell 1
 rw [Hxc.out] at x0 x1
 simp at x0 x1
 clear h hx hv hR hs0 hz0 hnc hvc hxc hN hW0 hlen hnn hNN hnn' hkd hk hpl hcv
 go_enter Tryz.func10, Tryz.ntmps10
 go_wp2_with fail
 rw [← HW0.out]
 go_at_call 24
 refine (between_any _ _ _ _).mono ?_
 rintro e w1 ⟨rfl, hw1⟩
 rw [hw1]
 clear hw1
 have hb1 : (decide ((1 : Int) ≤ 5) && decide ((5 : Int) ≤ 7)) = true := by decide
 rw [hb1]
 clear hb1
 go_wp2_with fail
 go_at_call 24
 refine (between_any _ _ _ _).mono ?_
 rintro e w1 ⟨rfl, hw1⟩
 rw [hw1]
 clear hw1
 have hb2 : (decide ((2 : Int) ≤ 5) && decide ((5 : Int) ≤ 5)) = true := by decide
 rw [hb2]
 clear hb2
 go_wp2_with fail
 go_at_call 24
 refine (between_any _ _ _ _).mono ?_
 rintro e w1 ⟨rfl, hw1⟩
 rw [hw1]
 clear hw1
 have hb3 : (decide (0 ≤ (k : Int)) && decide ((k : Int) ≤ (x.bag.bn : Int) - 1)) = true := by simp; omega
 rw [hb3]
 clear hb3
 have c0 := (Hx.out.below Hs0.out.below (Nat.le_refl _)).bag.c0 k hkb
 have c1 := (Hx.out.below Hs0.out.below (Nat.le_refl _)).bag.c1 k hkb
 have c2 := (Hx.out.below Hs0.out.below (Nat.le_refl _)).bag.c2 k hkb
 rw [← Hm.out] at c0 c1 c2
 rw [← Hs.out] at c2
 rw [Hba.out] at x1
 obtain ⟨q19, hq19⟩ : ∃ q19, q19 = W0.heap.size := ⟨_, rfl⟩
 obtain ⟨W1, hW1⟩ : ∃ W1, W1 = W0.alloc (.cells #[.int .i64 m.F, .int .i64 m.T, .string s] 69) := ⟨_, rfl⟩
 have hb1 : Below W0.heap.size W0 W1 := by rw [hW1]; exact (Below.refl _ W0).alloc (Nat.le_refl _) _
 have Hs1 := hide (Hs0.out.keep hb1)
 have Hm1 : Hid (Blk W1 q19 #[.int .i64 m.F, .int .i64 m.T, .string s] 69) := hide (by rw [hW1]; exact Blk.new' hq19)
 have Hz1 : Hid (w.heap.size + 4 ≤ W1.heap.size) := hide (by have := hb1.size; have := Hz0.out; omega)
 have va : ∀ o, (W0.alloc o).cell? ⟨w.heap.size + 2, 2, none⟩ = some (.int .i64 (pl : Int)) := fun o => by have := (Hs0.out.bv.alloc o).cell 2; rw [Hvc.out] at this; simpa using this
 have vb : ∀ o, (W0.alloc o).cell? ⟨w.heap.size + 2, 3, none⟩ = some (.int .i64 (cv : Int)) := fun o => by have := (Hs0.out.bv.alloc o).cell 3; rw [Hvc.out] at this; simpa using this
 have HW1 := hide hW1
 have Hq19 := hide hq19
 clear hb1 hW1 hq19
 go_wp2_with fail
 go_at_call 24
 refine (between_any _ _ _ _).mono ?_
 rintro e w1 ⟨rfl, hw1⟩
 rw [hw1]
 clear hw1
 have hb4 : (decide (0 ≤ (pl : Int)) && decide ((pl : Int) ≤ (L : Int) - 1)) = true := by simp; omega
 rw [hb4]
 clear hb4
 go_wp2_with fail
 go_at_call 24
 refine (between_any _ _ _ _).mono ?_
 rintro e w1 ⟨rfl, hw1⟩
 rw [hw1]
 clear hw1
 have hb5 : (decide (1 ≤ (cv : Int)) && decide ((cv : Int) ≤ 255)) = true := by simp; omega
 rw [hb5]
 clear hb5
 go_wp2_with fail
 rw [← HW1.out, ← Hq19.out]
 clear c0 c1 c2 va vb v0 v1 v2 v3 v4 n0 n1 n2 n3 n4 x0 x1
 refine wp_region_only (fun W => Below W1.heap.size W1 W) (valsE [.pointer (some ⟨q19, 2, none⟩), .string s, .pointer (some ⟨w.heap.size + 1 + 1, 2, none⟩), .int .i64 (pl : Int), .int .u8 (av : Int), .int .i64 (av : Int), .pointer (some ⟨w.heap.size + 1 + 1, 3, none⟩), .int .i64 (cv : Int), .int .i64 (av : Int), .int .i64 (cv : Int), .int .i64 0]) (by kernel_rfl) (by kernel_rfl) (by kernel_rfl) (⟨rfl, rfl, rfl, Nat.le_refl _, fun _ _ => rfl⟩) ⟨?_, ?_, ?_, ?_, ?_, ?_, ?_, ?_, ?_, ?_, ?_, trivial⟩ ?_
 rotate_right
 ·intro t W hG hE
  have e8 := valsE_get (hE 8 (by decide)) rfl
  have e9 := valsE_get (hE 9 (by decide)) rfl
  have e10 := valsE_get (hE 10 (by decide)) rfl
  have HG' := hide hG
  clear hE hG
  simp only [fill, Act.put, List.setIfInBounds_toArray, List.set_cons_zero, List.set_cons_succ, e8, e9, e10]
  clear e8 e9 e10
  obtain ⟨W2, hW2⟩ : ∃ W2, W2 = W := ⟨_, rfl⟩
  rw [← hW2] at HG' ⊢
  clear hW2
  have Hs2 := hide (Hs1.out.keep HG'.out)
  have Hm2 := hide (Hm1.out.below HG'.out Hm1.out.lt)
  have Hz2 : Hid (w.heap.size + 4 ≤ W2.heap.size) := hide (by have := HG'.out.size; have := Hz1.out; omega)
  clear HG' Hm1 Hs1 HW1
  go_wp2_with fail
  go_loopw [22, 23] (fun c b wr => ∃ j : Nat, j ≤ 8 ∧ b = .int .i64 ((2 ^ j : Nat) : Int) ∧ c = .int .i64 ((xorSum av cv j : Nat) : Int) ∧ Hid (Below W2.heap.size W2 wr)) (fun _ b _ => 256 - (intOf b).toNat)
  case atStart => exact ⟨0, by omega, rfl, rfl, hide (Below.refl _ _)⟩
  case round =>
   obtain ⟨j, hj, hbv, hcv, HBr⟩ := hrel
   subst hbv
   subst hcv
   have Hsr := hide (Hs2.out.keep HBr.out)
   obtain ⟨bt, hbt⟩ : ∃ bt, bt = 2 ^ j := ⟨_, rfl⟩
   rw [← hbt]
   by_cases hlt : j < 8
   ·have hpw : 2 ^ j ≤ 2 ^ 7 := Nat.pow_le_pow_right (by omega) (by omega)
    have hp0 := Nat.two_pow_pos j
    have hbt1 : 1 ≤ bt := by omega
    have hbt2 : bt ≤ 128 := by omega
    have hbti : (bt : Int) < 256 := by omega
    have Hnext : Hid (2 ^ (j + 1) = 2 * bt) := hide (by rw [hbt, Nat.pow_succ]; omega)
    obtain ⟨xs0, hxs0⟩ : ∃ xs0, xs0 = xorSum av cv j := ⟨_, rfl⟩
    have hx0 : xs0 < bt := by rw [hxs0, hbt]; exact xorSum_lt av cv j
    have Hxs : Hid (xorSum av cv (j + 1) = xs0 + if av / bt % 2 ≠ cv / bt % 2 then bt else 0) := hide (by rw [hxs0, hbt]; rfl)
    rw [← hxs0]
    obtain ⟨df, hdf⟩ : ∃ df : Bool, df = ((av : Int) / (bt : Int) % 2 != (cv : Int) / (bt : Int) % 2) := ⟨_, rfl⟩
    have Hdf0 := hide hdf
    have Hdf : Hid (df = (((av / bt % 2 : Nat) : Int) != ((cv / bt % 2 : Nat) : Int))) := hide (by rw [hdf, Int.natCast_emod, Int.natCast_emod, Int.natCast_ediv, Int.natCast_ediv]; rfl)
    have hda : av / bt ≤ av := Nat.div_le_self _ _
    have hdc : cv / bt ≤ cv := Nat.div_le_self _ _
    have Hbt := hide hbt
    have Hwa : Hid (IntKind.i64.wrap ((av : Int) / (bt : Int)) = (av : Int) / (bt : Int)) := hide (by obtain ⟨d, hd⟩ : ∃ d, d = av / bt := ⟨_, rfl⟩; rw [← Int.natCast_ediv, ← hd]; rw [← hd] at hda; exact wrap_sm (by omega) (by omega))
    have Hwc : Hid (IntKind.i64.wrap ((cv : Int) / (bt : Int)) = (cv : Int) / (bt : Int)) := hide (by obtain ⟨d, hd⟩ : ∃ d, d = cv / bt := ⟨_, rfl⟩; rw [← Int.natCast_ediv, ← hd]; rw [← hd] at hdc; exact wrap_sm (by omega) (by omega))
    clear hbt hxs0 hpw hp0 hdf
    go_wp2_with fail
    refine wp_region_only (fun W => Below wr.heap.size wr W) (valsE [.int .i64 (av : Int), .int .i64 (bt : Int), .int .i64 ((av : Int) / (bt : Int)), .int .i64 ((av : Int) / (bt : Int) % 2), .int .i64 (cv : Int), .int .i64 (bt : Int), .int .i64 ((cv : Int) / (bt : Int)), .int .i64 ((cv : Int) / (bt : Int) % 2), .bool df]) (by kernel_rfl) (by kernel_rfl) (by kernel_rfl) (⟨rfl, rfl, rfl, Nat.le_refl _, fun _ _ => rfl⟩) ⟨?_, ?_, ?_, ?_, ?_, ?_, ?_, ?_, ?_, trivial⟩ ?_
    rotate_right
    ·intro t W hG hE
     have e8 := valsE_get (hE 8 (by decide)) rfl
     have HG' := hide hG
     clear hE hG
     simp only [fill, Act.put, List.setIfInBounds_toArray, List.set_cons_zero, List.set_cons_succ, e8]
     clear e8
     by_cases hd : av / bt % 2 = cv / bt % 2
     ·have hdf : df = false := by rw [Hdf.out, hd]; simp
      rw [hdf]
      have HXn : Hid (xorSum av cv (j + 1) = xs0) := hide (by rw [Hxs.out, if_neg (by omega)]; rfl)
      have HB4 := hide (HBr.out.trans (HG'.out.mono HBr.out.size))
      clear hdf hd
      go_wp2
      go_roundw
      case rel =>
       first
       | exact ⟨j + 1, by omega, by rw [Hnext.out]; go_num, by rw [HXn.out], HB4⟩
       | ((repeat apply Exists.intro); refine ⟨?_, rfl⟩; exact ⟨j + 1, by omega, by rw [Hnext.out]; go_num, by rw [HXn.out], HB4⟩)
      case measure => simp [intOf]; omega
     ·have hdf : df = true := by rw [Hdf.out]; simp; omega
      rw [hdf]
      have HXn : Hid (xorSum av cv (j + 1) = xs0 + bt) := hide (by rw [Hxs.out, if_pos hd])
      have HB4 := hide (HBr.out.trans (HG'.out.mono HBr.out.size))
      clear hdf hd
      go_wp2
      go_roundw
      case rel =>
       first
       | exact ⟨j + 1, by omega, by rw [Hnext.out]; go_num, by rw [HXn.out]; go_num, HB4⟩
       | ((repeat apply Exists.intro); refine ⟨?_, rfl⟩; exact ⟨j + 1, by omega, by rw [Hnext.out]; go_num, by rw [HXn.out]; go_num, HB4⟩)
      case measure => simp [intOf]; omega
    all_goals intro t W hG hp K hK
    all_goals simp only [fill, Act.put, List.setIfInBounds_toArray, List.set_cons_zero, List.set_cons_succ] at hK ⊢
    ·rw [if_pos (by rfl)]
     go_simp
     exact hK _ _ hG rfl (fun _ _ _ h => h)
    ·rw [if_pos (by rfl)]
     go_simp
     exact hK _ _ hG rfl (fun _ _ _ h => h)
    ·have e0 := valsE_get (hp 0 (by decide)) rfl
     have e1 := valsE_get (hp 1 (by decide)) rfl
     have hb0 : ¬ bt = 0 := by omega
     have hwr := Hwa.out
     simp only [e0, e1] at hK ⊢
     rw [if_pos (by rfl)]
     go_simp
     exact hK _ _ hG rfl (fun _ _ _ h => h)
    ·have e2 := valsE_get (hp 2 (by decide)) rfl
     simp only [e2] at hK ⊢
     rw [if_pos (by rfl)]
     go_simp
     exact hK _ _ hG rfl (fun _ _ _ h => h)
    ·rw [if_pos (by rfl)]
     go_simp
     exact hK _ _ hG rfl (fun _ _ _ h => h)
    ·rw [if_pos (by rfl)]
     go_simp
     exact hK _ _ hG rfl (fun _ _ _ h => h)
    ·have e4 := valsE_get (hp 4 (by decide)) rfl
     have e5 := valsE_get (hp 5 (by decide)) rfl
     have hb0 : ¬ bt = 0 := by omega
     have hwr := Hwc.out
     simp only [e4, e5] at hK ⊢
     rw [if_pos (by rfl)]
     go_simp
     exact hK _ _ hG rfl (fun _ _ _ h => h)
    ·have e6 := valsE_get (hp 6 (by decide)) rfl
     simp only [e6] at hK ⊢
     rw [if_pos (by rfl)]
     go_simp
     exact hK _ _ hG rfl (fun _ _ _ h => h)
    ·have e3 := valsE_get (hp 3 (by decide)) rfl
     have e7 := valsE_get (hp 7 (by decide)) rfl
     simp only [e3, e7] at hK ⊢
     rw [if_pos (by rfl)]
     go_simp
     exact hK _ _ hG (by rw [← Hdf0.out]; rfl) (fun _ _ _ h => h)
   ·have hjn : j = 8 := by omega
    have Hxs : Hid (xorSum av cv j = xs) := hide (by rw [hjn, Hxse.out])
    have hbt8 : bt = 256 := by rw [hbt, hjn]
    rw [Hxs.out, hbt8]
    have HC := hide (HCp.out wr Hsr.out.below)
    have Hmr := hide (Hm2.out.below HBr.out Hm2.out.lt)
    have Hzr : Hid (w.heap.size + 4 ≤ wr.heap.size) := hide (by have := HBr.out.size; have := Hz2.out; omega)
    have x0 := Hsr.out.bx.cell 0
    have x1 := Hsr.out.bx.cell 1
    rw [Hxc.out] at x0 x1
    simp at x0 x1
    clear HCp hjn hbt8 Hxs hbt
    go_wp2_with fail
    go_at_call 35
    refine HC.out.mono ?_
    rintro r W3 ⟨⟨P0, Bv, y, hL3, rfl⟩, hb3⟩
    obtain ⟨ba, bc, hBv⟩ := own_form hL3.live.bag
    obtain ⟨bl, hbl⟩ : ∃ bl, bl = (x.eng).bag.length := ⟨_, rfl⟩
    rw [← hbl] at hBv
    subst hBv
    have Hbl := hide hbl
    obtain ⟨P, hP⟩ : ∃ P, P = W3.heap.size := ⟨_, rfl⟩
    obtain ⟨W4, hW4⟩ : ∃ W4, W4 = W3.alloc (.cells #[.slice (some ⟨y.G, 0, none⟩) N y.gc, .slice ba bl bc] 31) := ⟨_, rfl⟩
    have hbab : Below W3.heap.size W3 W4 := by rw [hW4]; exact (Below.refl _ W3).alloc (Nat.le_refl _) _
    have hbib := hb3.trans (hbab.mono hb3.size)
    have hL4 := hL3.rebox
    rw [← hW4, ← hP] at hL4
    have HL4 := hide hL4.live
    have Hs4 := hide (Hsr.out.keep hbib)
    have Hb4 := hide hbib
    have HW4 := hide hW4
    have HP := hide hP
    clear hL3 hb3 hbab hbib hL4 hW4 hP HC hbl x0 x1
    have v0 := Hs4.out.bv.cell 0
    have v1 := Hs4.out.bv.cell 1
    have v2 := Hs4.out.bv.cell 2
    have v3 := Hs4.out.bv.cell 3
    have v4 := Hs4.out.bv.cell 4
    rw [Hvc.out] at v0 v1 v2 v3 v4
    simp at v0 v1 v2 v3 v4
    have Hm4 := hide (Hmr.out.below Hb4.out Hmr.out.lt)
    have Hkl : Hid (k < x.eng.bag.length) := hide (by rw [Hlen.out]; exact hkb)
    obtain ⟨gB, cap, hq, _, _, _⟩ := HL4.out.mail Hkl.out
    obtain ⟨hba, hbl', hcp⟩ : ba = some ⟨gB, 0, none⟩ ∧ bl = x.eng.bag.length ∧ bc = cap := by simpa using hq
    clear hq hbl'
    subst hba
    subst hcp
    have Hki2 : Hid ((k : Int) < (bl : Int)) := hide (by rw [Hbl.out, Hlen.out]; exact hki)
    clear v0 v1 v2 v3 v4
    go_wp2_with fail
    rw [← HW4.out, ← HP.out]
    refine wp_region_last 23 _ (fun W => Below W4.heap.size W4 W) (spE [.pointer (some ⟨P, 1, none⟩), .slice (some ⟨gB, 0, none⟩) bl bc, .pointer (some ⟨w.heap.size + 1 + 1, 1, none⟩), .int .i64 (k : Int), .pointer (some ⟨q19, 2, none⟩), .string s, .pointer (some ⟨w.heap.size + 1 + 1, 2, none⟩), .int .i64 (pl : Int), .string sA, .int .i64 (xs : Int), .int .u8 (xs : Int), undef, .string sB, .string sAB, .pointer (some ⟨q19, 2, none⟩), .string s, .pointer (some ⟨w.heap.size + 1 + 1, 2, none⟩), .int .i64 (pl : Int), .int .i64 ((pl + 1 : Nat) : Int), .string sC, .string s2, .pointer (some ⟨gB, k * 3, none⟩), .pointer (some ⟨gB, k * 3 + 2, none⟩)] xs) (fun _ W => Live wr.heap.size P N (x.eng.step n.net v.ev) (.slice (some ⟨gB, 0, none⟩) bl bc) y W ∧ SB w n x v W) (fun _ _ _ => True) (by kernel_rfl) (by kernel_rfl) (by kernel_rfl) (by kernel_rfl) (by kernel_rfl) rfl (show Below W4.heap.size W4 W4.drew from ⟨rfl, rfl, rfl, Nat.le_refl _, fun _ _ => rfl⟩) ⟨?_, ?_, ?_, ?_, ?_, ?_, ?_, ?_, ?_, ?_, ?_, ?_, ?_, ?_, ?_, ?_, ?_, ?_, ?_, ?_, ?_, ?_, ?_, trivial⟩ ?_ trivial ?_
    rotate_right
    ·intro t W hG _
     simp only [fill, Act.put, List.setIfInBounds_toArray, List.set_cons_zero, List.set_cons_succ]
     obtain ⟨hL, hS⟩ := hG
     have HS := hide hS
     have p0 := hL.head.cell 0
     have p1 := hL.head.cell 1
     simp at p0 p1
     have Hrf : Hid (x.eng.step n.net v.ev = x.eng.step n.net v.ev) := hide rfl
     have HF := hide (step_fin hL HS.out (by have := Hzr.out; omega) HR.out.check HN.out (by rw [← Hrf.out]; exact HR.out.fit.step (Net.good_of_check HR.out.check) Herr.out) Hrf.out.symm Herr.out)
     have c7 := (HS.out.br.set 0 (.slice (some ⟨y.G, 0, none⟩) N y.gc)).set 1 (.slice (some ⟨gB, 0, none⟩) bl bc)
     have e0 := c7.cell 0
     have e1 := c7.cell 1
     simp at e0 e1
     have r0 := HS.out.br.cell 0
     have r1 := HS.out.br.cell 1
     have fr0 := HS.out.br.frozen 0
     have fr1 := HS.out.br.frozen 1
     simp at r0 r1
     clear c7 hL hS
     go_wp2
     exact bodyPost_ret (v := .tuple #[.agg #[.slice (some ⟨y.G, 0, none⟩) N y.gc, .slice (some ⟨gB, 0, none⟩) bl bc], .int .i64 0]) (by simp [results, Tryz.results10, go_sem, e0, e1]) rfl HF.out
    rotate_right
    ·intro t W hG hE _ K hK
     have e20 := spE_get (hE 20 (by omega)) (by decide) rfl
     have e22 := spE_get (hE 22 (by omega)) (by decide) rfl
     simp only [fill, Act.put, List.setIfInBounds_toArray, List.set_cons_zero, List.set_cons_succ, e20, e22] at hK ⊢
     rw [if_pos (by rfl)]
     have hlW := HL4.out.below hG
     have hset := hlW.setMail Hkl.out (by rw [← Hbl.out]) (m.b.set pl (m.b.getD pl 0 ^^^ u8 (cv : Int)))
     rw [← Hs2'.out] at hset
     obtain ⟨_, _, hq, _, _, k2⟩ := hlW.mail Hkl.out
     obtain ⟨rfl, hbl9, rfl⟩ : gB = _ ∧ _ ∧ bc = _ := by simpa using hq
     clear hbl9
     have kf : W.frozen? ⟨gB, k * 3 + 2, none⟩ = false := by
      obtain ⟨_, ho2⟩ := hlW.bag
      rcases ho2 with ⟨h0, _⟩ | ⟨g', cap', cur, e1, hbase, hb, _⟩
      ·cases h0
      ·obtain ⟨rfl, _, rfl⟩ : gB = g' ∧ _ ∧ bc = cap' := by simpa using e1
       exact Blk.frozen hb _
     have hgl := (hlW.bag.lt gB rfl).1
     have hSw : SB w n x v (W.setCell ⟨gB, k * 3 + 2, none⟩ (.string s2)) := (Hs4.out.keep hG).set (by have := Hzr.out; omega) _ _
     have hLs := (show Live wr.heap.size P N (x.eng.step n.net v.ev) (.slice (some ⟨gB, 0, none⟩) bl bc) y (W.setCell ⟨gB, k * 3 + 2, none⟩ (.string s2)) by rw [Hstep.out]; exact hset)
     have HN' := hide (And.intro hLs hSw)
     clear hset hlW hq hgl hSw hLs hE
     go_simp
     have h9 := hK undef _ HN'.out
     simp only [List.getElem_toArray, List.getElem_cons_succ, List.getElem_cons_zero] at h9
     exact h9
    all_goals intro t W hG hp ht K hK
    all_goals clear ht
    all_goals simp only [fill, Act.put, List.setIfInBounds_toArray, List.set_cons_zero, List.set_cons_succ] at hK ⊢
    ·rw [if_pos (by rfl)]
     go_simp
     exact hK _ _ hG (spE_put (by decide) rfl) (fun _ _ _ h => h)
    ·have e0 := spE_get (hp 0 (by decide)) (by decide) rfl
     have cx := (HL4.out.below hG).head.cell 1
     simp at cx
     simp only [e0] at hK ⊢
     rw [if_pos (by rfl)]
     go_simp
     exact hK _ _ hG (spE_put (by decide) rfl) (fun _ _ _ h => h)
    ·rw [if_pos (by rfl)]
     go_simp
     exact hK _ _ hG (spE_put (by decide) rfl) (fun _ _ _ h => h)
    ·have e2 := spE_get (hp 2 (by decide)) (by decide) rfl
     have cx := (Hs4.out.keep hG).bv.cell 1
     rw [Hvc.out] at cx
     simp at cx
     simp only [e2] at hK ⊢
     rw [if_pos (by rfl)]
     go_simp
     exact hK _ _ hG (spE_put (by decide) rfl) (fun _ _ _ h => h)
    ·rw [if_pos (by rfl)]
     go_simp
     exact hK _ _ hG (spE_put (by decide) rfl) (fun _ _ _ h => h)
    ·have e4 := spE_get (hp 4 (by decide)) (by decide) rfl
     have cx := (Hm4.out.below hG Hm4.out.lt).cell 2
     simp at cx
     simp only [e4] at hK ⊢
     rw [if_pos (by rfl)]
     go_simp
     exact hK _ _ hG (spE_put (by decide) rfl) (fun _ _ _ h => h)
    ·rw [if_pos (by rfl)]
     go_simp
     exact hK _ _ hG (spE_put (by decide) rfl) (fun _ _ _ h => h)
    ·have e6 := spE_get (hp 6 (by decide)) (by decide) rfl
     have cx := (Hs4.out.keep hG).bv.cell 2
     rw [Hvc.out] at cx
     simp at cx
     simp only [e6] at hK ⊢
     rw [if_pos (by rfl)]
     go_simp
     exact hK _ _ hG (spE_put (by decide) rfl) (fun _ _ _ h => h)
    ·have e5 := spE_get (hp 5 (by decide)) (by decide) rfl
     have e7 := spE_get (hp 7 (by decide)) (by decide) rfl
     have hA := HA.out
     have hple : pl ≤ L := by omega
     simp only [e5, e7] at hK ⊢
     rw [if_pos (by rfl)]
     go_simp
     exact hK _ _ hG (spE_put (by decide) rfl) (fun _ _ _ h => h)
    ·rw [if_pos (by rfl)]
     go_simp
     exact hK _ _ hG (spE_put (by decide) rfl) (fun _ _ _ h => h)
    ·have e9 := spE_get (hp 9 (by decide)) (by decide) rfl
     have hw8 : IntKind.u8.wrap (xs : Int) = (xs : Int) := wrap_u8 (by omega) (by have := Hx8.out; omega)
     simp only [e9] at hK ⊢
     rw [if_pos (by rfl)]
     go_simp
     exact hK _ _ hG (spE_put (by decide) rfl) (fun _ _ _ h => h)
    ·have e10 := spE_get (hp 10 (by decide)) (by decide) rfl
     simp only [e10] at hK ⊢
     rw [if_pos (by rfl)]
     go_simp
     exact hK _ _ (hG.alloc hG.size _) (spE_11.2 ⟨_, rfl, Blk.new W _ _⟩) (fun _ _ _ h => spE_keep ((Below.refl _ W).alloc (Nat.le_refl _) _) h)
    ·obtain ⟨g, e11, hg⟩ := spE_11.1 (hp 11 (by decide))
     simp only [e11] at hK ⊢
     have hcv := conv_one W Hx8.out hg
     rw [if_pos (by rfl)]
     rw [← HsBd.out] at hcv
     go_simp
     exact hK _ _ hG (spE_put (by decide) rfl) (fun _ _ _ h => h)
    ·have e8 := spE_get (hp 8 (by decide)) (by decide) rfl
     have e12 := spE_get (hp 12 (by decide)) (by decide) rfl
     have hAB := HAB.out
     have hsA := HsA.out
     have hsB := HsB.out
     have hlim : ¬ 9223372036854775807 < pl + 1 := by omega
     simp only [e8, e12] at hK ⊢
     rw [if_pos (by rfl)]
     go_simp
     exact hK _ _ hG (spE_put (by decide) rfl) (fun _ _ _ h => h)
    ·rw [if_pos (by rfl)]
     go_simp
     exact hK _ _ hG (spE_put (by decide) rfl) (fun _ _ _ h => h)
    ·have e14 := spE_get (hp 14 (by decide)) (by decide) rfl
     have cx := (Hm4.out.below hG Hm4.out.lt).cell 2
     simp at cx
     simp only [e14] at hK ⊢
     rw [if_pos (by rfl)]
     go_simp
     exact hK _ _ hG (spE_put (by decide) rfl) (fun _ _ _ h => h)
    ·rw [if_pos (by rfl)]
     go_simp
     exact hK _ _ hG (spE_put (by decide) rfl) (fun _ _ _ h => h)
    ·have e16 := spE_get (hp 16 (by decide)) (by decide) rfl
     have cx := (Hs4.out.keep hG).bv.cell 2
     rw [Hvc.out] at cx
     simp at cx
     simp only [e16] at hK ⊢
     rw [if_pos (by rfl)]
     go_simp
     exact hK _ _ hG (spE_put (by decide) rfl) (fun _ _ _ h => h)
    ·have e17 := spE_get (hp 17 (by decide)) (by decide) rfl
     simp only [e17] at hK ⊢
     rw [if_pos (by rfl)]
     go_simp
     exact hK _ _ hG (spE_put (by decide) (by rw [wrap_sm (by omega) (by omega)]; rfl)) (fun _ _ _ h => h)
    ·have e15 := spE_get (hp 15 (by decide)) (by decide) rfl
     have e18 := spE_get (hp 18 (by decide)) (by decide) rfl
     have hC := HC2.out
     have hci : 0 ≤ (pl : Int) + 1 ∧ (pl : Int) + 1 ≤ (L : Int) := by omega
     simp only [e15, e18] at hK ⊢
     rw [if_pos (by rfl)]
     go_simp
     exact hK _ _ hG (spE_put (by decide) rfl) (fun _ _ _ h => h)
    ·have e13 := spE_get (hp 13 (by decide)) (by decide) rfl
     have e19 := spE_get (hp 19 (by decide)) (by decide) rfl
     have h2 := HS2.out
     have hsC := HsC.out
     have hlim : ¬ 9223372036854775807 < pl + 1 + (L - (pl + 1)) := by omega
     simp only [e13, e19] at hK ⊢
     rw [if_pos (by rfl)]
     go_simp
     exact hK _ _ hG (spE_put (by decide) rfl) (fun _ _ _ h => h)
    ·have e1 := spE_get (hp 1 (by decide)) (by decide) rfl
     have e3 := spE_get (hp 3 (by decide)) (by decide) rfl
     have hki2 := Hki2.out
     simp only [e1, e3] at hK ⊢
     rw [if_pos (by rfl)]
     go_simp
     exact hK _ _ hG (spE_put (by decide) rfl) (fun _ _ _ h => h)
    ·have e21 := spE_get (hp 21 (by decide)) (by decide) rfl
     simp only [e21] at hK ⊢
     rw [if_pos (by rfl)]
     go_simp
     exact hK _ _ hG (spE_put (by decide) rfl) (fun _ _ _ h => h)
 all_goals intro t W hG hp K hK
 all_goals simp only [fill, Act.put, List.setIfInBounds_toArray, List.set_cons_zero, List.set_cons_succ] at hK ⊢
 ·rw [if_pos (by rfl)]
  go_simp
  exact hK _ _ hG rfl (fun _ _ _ h => h)
 ·have e0 := valsE_get (hp 0 (by decide)) rfl
  have cx := (Hm1.out.below hG Hm1.out.lt).cell 2
  simp at cx
  simp only [e0] at hK ⊢
  rw [if_pos (by rfl)]
  go_simp
  exact hK _ _ hG rfl (fun _ _ _ h => h)
 ·rw [if_pos (by rfl)]
  go_simp
  exact hK _ _ hG rfl (fun _ _ _ h => h)
 ·have e2 := valsE_get (hp 2 (by decide)) rfl
  have cx := (Hs1.out.keep hG).bv.cell 2
  rw [Hvc.out] at cx
  simp at cx
  simp only [e2] at hK ⊢
  rw [if_pos (by rfl)]
  go_simp
  exact hK _ _ hG rfl (fun _ _ _ h => h)
 ·have e1 := valsE_get (hp 1 (by decide)) rfl
  have e3 := valsE_get (hp 3 (by decide)) rfl
  have hg := Hg.out
  simp only [e1, e3] at hK ⊢
  rw [if_pos (by rfl)]
  go_simp
  exact hK _ _ hG rfl (fun _ _ _ h => h)
 ·have e4 := valsE_get (hp 4 (by decide)) rfl
  have hwv : IntKind.i64.wrap (av : Int) = (av : Int) := wrap_sm (by omega) (by omega)
  simp only [e4] at hK ⊢
  rw [if_pos (by rfl)]
  go_simp
  exact hK _ _ hG rfl (fun _ _ _ h => h)
 ·rw [if_pos (by rfl)]
  go_simp
  exact hK _ _ hG rfl (fun _ _ _ h => h)
 ·have e6 := valsE_get (hp 6 (by decide)) rfl
  have cx := (Hs1.out.keep hG).bv.cell 3
  rw [Hvc.out] at cx
  simp at cx
  simp only [e6] at hK ⊢
  rw [if_pos (by rfl)]
  go_simp
  exact hK _ _ hG rfl (fun _ _ _ h => h)
 ·have e5 := valsE_get (hp 5 (by decide)) rfl
  simp only [e5] at hK ⊢
  rw [if_pos (by rfl)]
  go_simp
  exact hK _ _ hG rfl (fun _ _ _ h => h)
 ·have e7 := valsE_get (hp 7 (by decide)) rfl
  simp only [e7] at hK ⊢
  rw [if_pos (by rfl)]
  go_simp
  exact hK _ _ hG rfl (fun _ _ _ h => h)
 ·rw [if_pos (by rfl)]
  go_simp
  exact hK _ _ hG rfl (fun _ _ _ h => h)

end Go.Proofs.YtjhkadffaephmabGreat
