/-
  Our own texts, bundled: a claim holds few files.
-/
import Derived.Test.YtjhkadffaephmabGreatCutEnginePlaysCD
import Derived.Test.YtjhkadffaephmabGreatCutEnginePlaysCE
import Derived.Test.YtjhkadffaephmabGreatCutEnginePlaysBF
import Derived.Test.YtjhkadffaephmabGreatCutEnginePlaysAJ
import Derived.Lib.AppendZeros
import Derived.Test.YtjhkadffaephmabGreatCutEnginePlaysAI
/-
 signpostref.StepOf: a router tells.
-/
namespace Go.Proofs.YtjhkadffaephmabGreat
set_option maxRecDepth 100000
open Go.RowKit

theorem SB.belowLo {w : World} {n : NetM} {x : EngM} {v : EvM} {Wl W : World} (h1 : SB w n x v Wl) (h2 : SB w n x v W) (hs : Wl.heap.size ≤ W.heap.size) (hb : ∀ b, b < Wl.heap.size → W.heap[b]? = Wl.heap[b]?) : Below Wl.heap.size Wl W :=
 ⟨h2.below.os.trans h1.below.os.symm, h2.below.tape.trans h1.below.tape.symm, h2.below.output.trans h1.below.output.symm, hs, hb⟩
/-- So many hearers were told. -/
def Eng.toldTo (n : Net) (e : Eng) (i : Nat) (K : List Nat) (j : Nat) : Eng := { e with bag := e.bag ++ (K.take j).map fun q => e.mail n i q }
theorem Eng.toldTo_zero (n : Net) (e : Eng) (i : Nat) (K : List Nat) : e.toldTo n i K 0 = e := by simp [Eng.toldTo]
theorem Eng.toldTo_succ (n : Net) (e : Eng) (i : Nat) (K : List Nat) (j : Nat) (hj : j < K.length) : { e.toldTo n i K j with bag := (e.toldTo n i K j).bag ++ [e.mail n i (K.getD j 0)] } = e.toldTo n i K (j + 1) := by
 unfold Eng.toldTo
 simp only [take_snoc K _ j hj, List.append_assoc]
theorem Eng.toldTo_len (n : Net) (e : Eng) (i : Nat) (K : List Nat) (j : Nat) (hj : j ≤ K.length) : (e.toldTo n i K j).bag.length = e.bag.length + j := by
 unfold Eng.toldTo
 simp only [List.length_append, List.length_map, List.length_take]
 omega
theorem Eng.toldTo_end (n : Net) (e : Eng) (i : Nat) : (e.look n i).toldTo n i (n.hearers i) (n.hearers i).length = e.tick n i := by
 unfold Eng.toldTo Eng.tick
 rw [List.take_length]
 rfl

set_option maxHeartbeats 4000000 in
theorem stepOf_tick (n : NetM) (x : EngM) (v : EvM) (N : Nat) (w : World) (h : n.In w.heap.size w) (hx : x.In w.heap.size w) (hv : v.In w.heap.size w) (hN : n.nodes = N) (hR : x.Right n.net N) (_hcap : x.bag.bn ≤ x.bag.bc) (k : Nat) (hk : v.loc = (k : Int)) (hkd : v.kind = 1) (hkN : k < N) :
  Calls Tryz.prog 10 #[n.val, x.val, v.val] w fun r w' => StepRef n.net x v.ev w r w' := by
 obtain ⟨hN0, hN6, hNN, hnn⟩ := nodes_six hR.check hN
 have hnn' : n.net.nodes = n.nodes := rfl
 have hlen : x.eng.bag.length = x.bag.bn := by show ((List.range x.bag.bn).map x.bag.M).length = _; simp
 have hbn := hR.bn
 obtain ⟨K, hK⟩ : ∃ K, K = n.net.hearers k := ⟨_, rfl⟩
 obtain ⟨e1, he1⟩ : ∃ e1, e1 = x.eng.look n.net k := ⟨_, rfl⟩
 have Herr : Hid (x.eng.stepErr n.net v.ev = if 120 < x.bag.bn + K.length then 2 else 0) := hide (by rw [Eng.err_tick (v := v.ev) hkd (show 0 ≤ v.loc by omega) (show v.loc < n.net.nodes by omega), hlen, hK]; show (if 120 < x.bag.bn + (n.net.hearers v.loc.toNat).length then _ else _) = _; rw [hk]; rfl)
 have Hstep : Hid (x.eng.step n.net v.ev = e1.toldTo n.net k K K.length) := hide (by rw [Eng.does_tick (v := v.ev) hkd, hK, he1, Eng.toldTo_end]; show x.eng.tick n.net v.loc.toNat = _; rw [hk]; rfl)
 have He1 := hide he1
 have HK := hide hK
 have Hk6 : Hid (K.length ≤ 6) := hide (by have := n.net.hearers_le k; rw [hK]; omega)
 have HEd := hide (fun (i j : Int) (W : World) (hb : Below w.heap.size w W) => edgeOf_any n i j W (h.grown hb))
 have HLk := hide (fun W (hb : Below w.heap.size w W) => refLooked_any n x N k W (h.grown hb) (hx.grown hb) hN hR hkN)
 obtain ⟨i1, hi1, hy0, hy1, hy2⟩ := info_parts Tryz.infoInt
 have Hend : Hid (n.net.hearTo k N = K) := hide (by rw [hK]; unfold Net.hearTo Net.hearers; rw [hNN])
 have Hbe : Hid (e1.bag.length = x.bag.bn) := hide (by rw [he1]; exact hlen)
 clear hK he1
 have hncE : n.cells = #[.int .i64 n.a.size, .slice n.a.B.ga n.a.B.t.len n.a.B.cap, .slice n.a.E.ga n.a.E.t.len n.a.E.cap, .int .i64 N, .slice n.la n.ln n.lc] := by simp only [NetM.cells, Mat.val, hN]
 simp only [EngM.val, EngM.cells, NetM.val, hncE] at HEd HLk
 clear hncE
 rw [← He1.out] at HLk
 obtain ⟨W0, hW0⟩ : ∃ W0, W0 = (((w.alloc (.cells n.cells 27)).alloc (.cells x.cells 31)).alloc (.cells v.cells 34)).alloc (.cells #[.slice none 0 0, .slice none 0 0] 31) := ⟨_, rfl⟩
 have hs0 : SB w n x v W0 := by rw [hW0]; exact SB.start w n x v
 have hz0 : W0.heap.size = w.heap.size + 4 := by rw [hW0]; simp
 have hnc : n.cells = #[.int .i64 n.a.size, .slice n.a.B.ga n.a.B.t.len n.a.B.cap, .slice n.a.E.ga n.a.E.t.len n.a.E.cap, .int .i64 N, .slice n.la n.ln n.lc] := by simp only [NetM.cells, Mat.val, hN]
 have hvc : v.cells = #[.int .i64 1, .int .i64 (k : Int), .int .i64 v.b, .int .i64 v.c, .slice v.ra v.rl v.rc] := by rw [← hkd, ← hk]; rfl
 have hxc : x.cells = #[.slice x.rs.ga x.rs.gn x.rs.gc, .slice x.bag.ba x.bag.bn x.bag.bc] := rfl
 have H := hide h
 have Hx := hide hx
 have Hv := hide hv
 have HR := hide hR
 have Hs0 := hide hs0
 have Hz0 := hide hz0
 have Hnc := hide hnc
 have Hvc := hide hvc
 have Hxc := hide hxc
 have HN := hide hN
 have Hlen := hide hlen
 have Hnn := hide hnn
 have HNN := hide hNN
 have Hkd := hide hkd
 have Hk := hide hk
 have HIs := hide (fun (i : Int) (W : World) => isNode_any n i W (by omega) (by omega))
 simp only [NetM.val, hnc, hN] at HIs
 rw [hnc, hvc, hxc] at hW0
 simp only [NetM.val, EngM.val, EvM.val, hnc, hvc, hxc]
 have HW0 := hide hW0
 have v0 := Hs0.out.bv.cell 0
 have v1 := Hs0.out.bv.cell 1
 have v2 := Hs0.out.bv.cell 2
 have v3 := Hs0.out.bv.cell 3
 have v4 := Hs0.out.bv.cell 4
 rw [Hvc.out] at v0 v1 v2 v3 v4
 simp at v0 v1 v2 v3 v4
 have n0 := Hs0.out.bn.cell 0
 have n1 := Hs0.out.bn.cell 1
 have n2 := Hs0.out.bn.cell 2
 have n3 := Hs0.out.bn.cell 3
 have n4 := Hs0.out.bn.cell 4
 rw [Hnc.out] at n0 n1 n2 n3 n4
 simp at n0 n1 n2 n3 n4
 have x0 := Hs0.out.bx.cell 0
 have x1 := Hs0.out.bx.cell 1
 rw [Hxc.out] at x0 x1
 simp at x0 x1
 clear h hx hv hR hs0 hz0 hnc hvc hxc hN hW0 hlen hnn hNN hnn' hkd hk 
 go_enter Tryz.func10, Tryz.ntmps10
 go_wp2_with fail
 rw [← HW0.out]
 go_at_call 24
 refine (between_any _ _ _ _).mono ?_
 rintro e w1 ⟨rfl, hw1⟩
 rw [hw1]
 clear hw1
 have hb1 : (decide ((1 : Int) ≤ 1) && decide ((1 : Int) ≤ 7)) = true := by decide
 rw [hb1]
 clear hb1
 go_wp2_with fail
 go_at_call 24
 refine (between_any _ _ _ _).mono ?_
 rintro e w1 ⟨rfl, hw1⟩
 rw [hw1]
 clear hw1
 have hb2 : (decide ((2 : Int) ≤ 1) && decide ((1 : Int) ≤ 5)) = false := by decide
 rw [hb2]
 clear hb2
 go_wp2_with fail
 go_at_call 25
 refine (HIs.out _ _).mono ?_
 rintro e W1 ⟨rfl, hW1⟩
 have Hb01 : Hid (Below W0.heap.size W0 W1) := hide (by rw [hW1]; exact (Below.refl _ _).alloc (Nat.le_refl _) _)
 have Hs1 := hide (Hs0.out.keep Hb01.out)
 have Hz1 : Hid (w.heap.size + 4 ≤ W1.heap.size) := hide (by have := Hb01.out.size; have := Hz0.out; omega)
 clear hW1  v0 v1 v2 v3 v4 n0 n1 n2 n3 n4 x0 x1
 have v0 := Hs1.out.bv.cell 0
 have v1 := Hs1.out.bv.cell 1
 have v2 := Hs1.out.bv.cell 2
 have v3 := Hs1.out.bv.cell 3
 have v4 := Hs1.out.bv.cell 4
 rw [Hvc.out] at v0 v1 v2 v3 v4
 simp at v0 v1 v2 v3 v4
 have n0 := Hs1.out.bn.cell 0
 have n1 := Hs1.out.bn.cell 1
 have n2 := Hs1.out.bn.cell 2
 have n3 := Hs1.out.bn.cell 3
 have n4 := Hs1.out.bn.cell 4
 rw [Hnc.out] at n0 n1 n2 n3 n4
 simp at n0 n1 n2 n3 n4
 have x0 := Hs1.out.bx.cell 0
 have x1 := Hs1.out.bx.cell 1
 rw [Hxc.out] at x0 x1
 simp at x0 x1
 have hb3 : (decide (0 ≤ (k : Int)) && decide ((k : Int) ≤ (N : Int) - 1)) = true := by simp; omega
 rw [hb3]
 clear hb3
 go_wp2_with fail
 go_loopw [8, 9] (fun u q wr => ∃ j : Nat, j ≤ N ∧ q = .int .i64 j ∧ Hid (wr.ownsRow W1.heap.size 3 1 u (n.net.hearTo k j).length (natsL (n.net.hearTo k j))) ∧ Hid (Below W1.heap.size W1 wr)) (fun _ q _ => N - (intOf q).toNat)
 case atStart => exact ⟨0, Nat.zero_le _, rfl, hide (World.ownsRow_nil _ _ _ _), hide (Below.refl _ _)⟩
 case round =>
  obtain ⟨j, hj, rfl, HO, HBr⟩ := hrel
  have Hsr := hide (Hs1.out.keep HBr.out)
  clear v0 v1 v2 v3 v4 n0 n1 n2 n3 n4 x0 x1
  have v0 := Hsr.out.bv.cell 0
  have v1 := Hsr.out.bv.cell 1
  have v2 := Hsr.out.bv.cell 2
  have v3 := Hsr.out.bv.cell 3
  have v4 := Hsr.out.bv.cell 4
  rw [Hvc.out] at v0 v1 v2 v3 v4
  simp at v0 v1 v2 v3 v4
  have n0 := Hsr.out.bn.cell 0
  have n1 := Hsr.out.bn.cell 1
  have n2 := Hsr.out.bn.cell 2
  have n3 := Hsr.out.bn.cell 3
  have n4 := Hsr.out.bn.cell 4
  rw [Hnc.out] at n0 n1 n2 n3 n4
  simp at n0 n1 n2 n3 n4
  have x0 := Hsr.out.bx.cell 0
  have x1 := Hsr.out.bx.cell 1
  rw [Hxc.out] at x0 x1
  simp at x0 x1
  by_cases hlt : j < N
  ·have hji : (j : Int) < (N : Int) := by omega
   have HC := hide (HEd.out j k wr Hsr.out.below)
   have hle := n.net.hearTo_le k j
   go_wp2_with fail
   go_at_call 30
   refine HC.out.mono ?_
   rintro e w2 ⟨rfl, hw2⟩
   have hb2 : Below wr.heap.size wr w2 := by rw [hw2]; exact (Below.refl _ wr).alloc (Nat.le_refl _) _
   have HB2 := hide (HBr.out.trans (hb2.mono HBr.out.size))
   have HO2 := hide (owns_below HO.out hb2)
   clear hw2 hb2 HC HO v0 v1 v2 v3 v4 n0 n1 n2 n3 n4 x0 x1
   by_cases he : 0 ≤ n.net.edge j k
   ·have hs : n.net.hearTo k (j + 1) = n.net.hearTo k j ++ [j] := by rw [Net.hearTo_succ, if_pos he]
    have Hs : Hid ((n.net.hearTo k (j + 1)).length = (n.net.hearTo k j).length + 1 ∧ natsL (n.net.hearTo k (j + 1)) = natsL (n.net.hearTo k j) ++ [.int .i64 (j : Int)]) := hide (by rw [hs]; simp [natsL])
    generalize n.net.edge j k = ed at *
    generalize (n.net.hearTo k j).length = len at *
    clear hs
    go_wp2_with (at_builtin; refine wpList_append_lies _ rfl _ _ _ rfl W1.heap.size 3 i1 _ 1 8 Tryz.underlying32 hi1 hy0 hy1 hy2 rfl (by decide) _ len _ rfl (HO2.out.alloc _) ⟨w2.heap.size, 0, none⟩ 1 1 [.int .i64 (j : Int)] rfl rfl ?c1 ?c2 (by decide) ?c3 ?c4 ?c5 _ rfl ?_)
    all_goals try (case c1 => exact World.news_of_block (Blk.new' (by simp)))
    all_goals try (case c2 => simp [Value.oneCell'])
    all_goals try (case c3 => unfold maxLen; omega)
    all_goals try (case c4 => omega)
    all_goals try (case c5 => have := HB2.out.size; simp; omega)
    intro g' cap' w4 hown2 hgrow hat2 hlt2
    have HB4 := hide ((HB2.out.alloc HB2.out.size (.cells #[.int .i64 (j : Int)] 3)).trans (grown_below hgrow (fun g hg => (HO2.out.lt g hg).1) (by have := HB2.out.size; simp; omega)))
    have HO4 : Hid (w4.ownsRow W1.heap.size 3 1 (.slice (some ⟨g', 0, none⟩) (len + 1) cap') (n.net.hearTo k (j + 1)).length (natsL (n.net.hearTo k (j + 1)))) := hide (by rw [Hs.out.1, Hs.out.2]; exact hown2)
    clear hown2 hgrow hat2 hlt2 HB2 HO2 Hs
    go_wp2
    go_roundw
    case rel =>
     first
     | exact ⟨j + 1, by omega, by go_num, HO4, HB4⟩
     | ((repeat apply Exists.intro); refine ⟨?_, rfl⟩; exact ⟨j + 1, by omega, by go_num, HO4, HB4⟩)
    case measure => simp [intOf]; omega
   ·have hs : n.net.hearTo k (j + 1) = n.net.hearTo k j := by rw [Net.hearTo_succ, if_neg he, List.append_nil]
    rw [← hs] at HO2
    generalize n.net.edge j k = ed at *
    clear hs
    go_wp2
    go_roundw
    case rel =>
     first
     | exact ⟨j + 1, by omega, by go_num, HO2, HB2⟩
     | ((repeat apply Exists.intro); refine ⟨?_, rfl⟩; exact ⟨j + 1, by omega, by go_num, HO2, HB2⟩)
    case measure => simp [intOf]; omega
  ·have hjn : j = N := by omega
   rw [hjn, Hend.out] at HO
   obtain ⟨ta, tc, gt, hu, hto⟩ := own_nats HO.out
   subst hu
   have hji : ¬ (j : Int) < (N : Int) := by omega
   obtain ⟨kl, hkl⟩ : ∃ kl, kl = K.length := ⟨_, rfl⟩
   rw [← hkl] at hto ⊢
   have Hto := hide hto
   have Hkl := hide hkl
   have hk6 : kl ≤ 6 := by have := Hk6.out; omega
   clear hjn HO hto hkl
   by_cases hmany : 120 < x.bag.bn + kl
   ·have hmi : (120 : Int) < (x.bag.bn : Int) + (kl : Int) := by omega
    have Her : Hid (x.eng.stepErr n.net v.ev = 2) := hide (by rw [Herr.out, ← Hkl.out, if_pos hmany])
    have HF := hide (step_no (er := 2) Hsr.out (Her.out) (by decide))
    have c7 := (Hsr.out.br.set 0 (.slice none 0 0)).set 1 (.slice none 0 0)
    have e0 := c7.cell 0
    have e1 := c7.cell 1
    simp at e0 e1
    have r0 := Hsr.out.br.cell 0
    have r1 := Hsr.out.br.cell 1
    have fr0 := Hsr.out.br.frozen 0
    have fr1 := Hsr.out.br.frozen 1
    simp at r0 r1
    clear c7
    go_wp2
    exact bodyPost_ret (v := .tuple #[.agg #[.slice none 0 0, .slice none 0 0], .int .i64 2]) (by simp [results, Tryz.results10, go_sem, e0, e1]) rfl HF.out
   have hmi : ¬ (120 : Int) < (x.bag.bn : Int) + (kl : Int) := by omega
   have Her : Hid (x.eng.stepErr n.net v.ev = 0) := hide (by rw [Herr.out, ← Hkl.out, if_neg hmany])
   have HC := hide (HLk.out wr Hsr.out.below)
   have Hzr : Hid (w.heap.size + 4 ≤ wr.heap.size) := hide (by have := HBr.out.size; have := Hz1.out; omega)
   have Hmany := hide hmany
   clear hmany HLk hi1 hy0 hy1 hy2
   go_wp2_with fail
   go_at_call 31
   refine HC.out.mono ?_
   rintro r W3 ⟨⟨P0, Bv, y, hL3, rfl⟩, hb3⟩
   obtain ⟨ba, bc, hBv⟩ := own_form hL3.live.bag
   obtain ⟨bl, hbl⟩ : ∃ bl, bl = (e1).bag.length := ⟨_, rfl⟩
   rw [← hbl] at hBv
   subst hBv
   have Hbl := hide hbl
   obtain ⟨P, hP⟩ : ∃ P, P = W3.heap.size := ⟨_, rfl⟩
   obtain ⟨W4, hW4⟩ : ∃ W4, W4 = W3.alloc (.cells #[.slice (some ⟨y.G, 0, none⟩) N y.gc, .slice ba bl bc] 31) := ⟨_, rfl⟩
   have hbab : Below W3.heap.size W3 W4 := by rw [hW4]; exact (Below.refl _ W3).alloc (Nat.le_refl _) _
   have hbib := hb3.trans (hbab.mono hb3.size)
   have hL4 := hL3.rebox
   rw [← hW4, ← hP] at hL4
   have HL4 := hide hL4.live
   have Hs4 := hide (Hsr.out.keep hbib)
   have Hb4 := hide hbib
   have HW4 := hide hW4
   have HP := hide hP
   clear hL3 hb3 hbab hbib hL4 hW4 hP HC hbl  v0 v1 v2 v3 v4 n0 n1 n2 n3 n4 x0 x1
   obtain ⟨Wl, hWl⟩ : ∃ Wl, Wl = wr := ⟨_, rfl⟩
   rw [← hWl] at HL4 Hb4 Hzr Hsr Hto
   clear hWl
   have HbwL := hide HBr
   clear HBr HbwL
   go_wp2_with fail
   rw [← HW4.out, ← HP.out]
   go_loopw [11, 12, 13] (fun q _ _ wr => ∃ j : Nat, j ≤ kl ∧ q = .int .i64 j ∧ Hid (∃ Bv, Live Wl.heap.size P N (e1.toldTo n.net k K j) Bv y wr) ∧ Hid (Below Wl.heap.size Wl wr)) (fun q _ _ _ => kl - (intOf q).toNat)
   case atStart => exact ⟨0, Nat.zero_le _, rfl, hide ⟨_, by rw [Eng.toldTo_zero]; exact HL4.out⟩, Hb4⟩
   case round =>
    clear HL4 Hb4 hj hji HW4 HP Hbl Hs4
    obtain ⟨j2, hj2, rfl, HI, HBr⟩ := hrel
    by_cases hlt2 : j2 < kl
    ·have hji : (j2 : Int) < (kl : Int) := by omega
     obtain ⟨Bv, hl⟩ := HI.out
     obtain ⟨ba2, bc2, hBv⟩ := own_form hl.bag
     obtain ⟨bl2, hbl2⟩ : ∃ bl2, bl2 = (e1.toldTo n.net k K j2).bag.length := ⟨_, rfl⟩
     rw [← hbl2] at hBv
     subst hBv
     obtain ⟨hta, hg1, hg2, hgc⟩ := Hto.out (by omega)
     subst hta
     obtain ⟨q, hq⟩ : ∃ q, q = K.getD j2 0 := ⟨_, rfl⟩
     have hgq := hgc j2 hlt2
     rw [← hq] at hgq
     obtain ⟨ej, hej⟩ : ∃ ej, ej = e1.toldTo n.net k K j2 := ⟨_, rfl⟩
     have hRk : ej.R k = e1.R k := by rw [hej]; rfl
     rw [← hej] at hl
     have HLr := hide hl
     have Hsw := hide (Hsr.out.keep HBr.out)
     have Hgq := hide hgq
     have Hgl : Hid (gt < Wl.heap.size) := hide hg2
     have Hq := hide hq
     have Hej := hide hej
     have HRk := hide hRk
     have Hlj : Hid (ej.bag.length ≤ 200) := hide (by rw [hej, Eng.toldTo_len n.net e1 k K j2 (by rw [← Hkl.out]; exact hj2), Hbe.out]; have := Hmany.out; omega)
     obtain ⟨tx, htx⟩ : ∃ tx, tx = (Pkt.mk k q N (e1.R k)).text := ⟨_, rfl⟩
     obtain ⟨er, her⟩ : ∃ er, er = (Pkt.mk k q N (e1.R k)).err := ⟨_, rfl⟩
     have HWr : Hid (∀ W, Below wr.heap.size wr W → Calls Tryz.prog 32 #[.agg #[.int .i64 (k : Int), .int .i64 (q : Int), .slice (some ⟨y.rb k, 0, none⟩) N (y.rc k)]] W fun e w' => e = .returned (.tuple #[.string ⟨tx.toArray⟩, .int .i64 er]) ∧ Below W.heap.size W w') := hide (fun W hb => by
      have hl2 := HLr.out.below hb
      obtain ⟨hro, hrc⟩ := hl2.routes k hkN
      have := writeOf_any ⟨k, q, some ⟨y.rb k, 0, none⟩, N, y.rc k, y.rb k, 0, e1.R k⟩ W ⟨⟨fun _ => rfl, fun j hj => by rw [Nat.zero_add]; exact (by rw [← HRk.out]; exact hrc j hj), by show N ≤ _; unfold maxLen; omega⟩, fun _ => hro.lt, by show N ≤ _; omega⟩
      rw [htx, her]
      exact this)
     have Htx := hide htx
     clear hl hg1 hg2 hgc hgq hq hej hRk htx her HI hbl2
     have hki : (k : Int) < (N : Int) := by omega
     have HkN := hide hkN
     go_wp2_with fail
     refine wp_region_only (fun W => Below wr.heap.size wr W) (valsE [.pointer (some ⟨w.heap.size + 1 + 1, 1, none⟩), .int .i64 (k : Int), .slice (some ⟨gt, 0, none⟩) kl tc, .int .i64 (j2 : Int), .pointer (some ⟨gt, j2, none⟩), .int .i64 (q : Int), .pointer (some ⟨P, 0, none⟩), .slice (some ⟨y.G, 0, none⟩) N y.gc, .pointer (some ⟨w.heap.size + 1 + 1, 1, none⟩), .int .i64 (k : Int), .pointer (some ⟨y.G, k * 2, none⟩), .pointer (some ⟨y.G, k * 2, none⟩), .slice (some ⟨y.rb k, 0, none⟩) N (y.rc k), .agg #[.int .i64 (k : Int), .int .i64 (q : Int), .slice (some ⟨y.rb k, 0, none⟩) N (y.rc k)], .tuple #[.string ⟨tx.toArray⟩, .int .i64 er], .tuple #[.string ⟨tx.toArray⟩, .int .i64 er], .string ⟨tx.toArray⟩, .int .i64 er, .string ⟨tx.toArray⟩, .int .i64 er]) (by kernel_rfl) (by kernel_rfl) (by kernel_rfl) (⟨rfl, rfl, rfl, Nat.le_refl _, fun _ _ => rfl⟩) ⟨?_, ?_, ?_, ?_, ?_, ?_, ?_, ?_, ?_, ?_, ?_, ?_, ?_, ?_, ?_, ?_, ?_, ?_, ?_, ?_, trivial⟩ ?_
     rotate_right
     ·intro t W hG hE
      have e18 := valsE_get (hE 18 (by decide)) rfl
      have e19 := valsE_get (hE 19 (by decide)) rfl
      have HG' := hide hG
      clear hE hG
      simp only [fill, Act.put, List.setIfInBounds_toArray, List.set_cons_zero, List.set_cons_succ, e18, e19]
      clear e18 e19
      obtain ⟨W5, hW5⟩ : ∃ W5, W5 = W := ⟨_, rfl⟩
      rw [← hW5] at HG' ⊢
      clear hW5
      have Hb5 := hide (HBr.out.trans (HG'.out.mono HBr.out.size))
      have HL5 := hide (HLr.out.below HG'.out)
      have Hs5 := hide (Hsw.out.keep HG'.out)
      clear HG' HLr Hsw HBr HWr
      go_wp2_with fail
      refine wp_region_done (fun d W => AddG w n x v Wl.heap.size P N ej (Mail.mk (k : Int) (q : Int) tx) (.slice ba2 bl2 bc2) y W5 (d 11) (d 13) W) (fun d => addE [.pointer (some ⟨P, 1, none⟩), .slice ba2 bl2 bc2, .pointer (some ⟨w.heap.size + 1 + 1, 1, none⟩), .int .i64 (k : Int), .slice (some ⟨gt, 0, none⟩) kl tc, .int .i64 (j2 : Int), .pointer (some ⟨gt, j2, none⟩), .int .i64 (q : Int), .string ⟨tx.toArray⟩, .agg #[.int .i64 (k : Int), .int .i64 (q : Int), .string ⟨tx.toArray⟩], undef, undef, .pointer (some ⟨P, 1, none⟩), undef] 10 11 13 Wl.heap.size (ej).bag (Mail.mk (k : Int) (q : Int) tx) (.slice ba2 bl2 bc2) W5 (d 11) (d 13)) (by kernel_rfl) (by kernel_rfl) (by kernel_rfl) (AddG.start ⟨rfl, rfl, rfl, Nat.le_refl _, fun _ _ => rfl⟩) ⟨?_, ?_, ?_, ?_, ?_, ?_, ?_, ?_, ?_, ?_, ?_, ?_, ?_, ?_, trivial⟩ ?_
      rotate_right
      ·intro d t W hall hG _
       simp only [fill, Act.put, List.setIfInBounds_toArray, List.set_cons_zero, List.set_cons_succ]
       have hfin := hG.fin (hall 13 (by decide))
       clear hG hall
       obtain ⟨Bw, hL, hS, hsz, hkp, hat⟩ := hfin
       have hmm : e1.mail n.net k (K.getD j2 0) = Mail.mk (k : Int) (q : Int) tx := by unfold Eng.mail; rw [HNN.out, ← Hq.out, Htx.out]
       have hL' : Live Wl.heap.size P N (e1.toldTo n.net k K (j2 + 1)) Bw y W := by rw [← Eng.toldTo_succ n.net e1 k K j2 (by rw [← Hkl.out]; exact hlt2), hmm, ← Hej.out]; exact hL
       have HI4 : Hid (∃ Bv, Live Wl.heap.size P N (e1.toldTo n.net k K (j2 + 1)) Bv y W) := hide ⟨Bw, hL'⟩
       have HB4 : Hid (Below Wl.heap.size Wl W) := hide (Hsr.out.belowLo hS (Nat.le_trans Hb5.out.size hsz) (fun b hb => (hkp b (Nat.lt_of_lt_of_le hb Hb5.out.size) (fun e2 => by have := (HL5.out.bag.lt b e2).1; omega) (fun e2 => by have := HL5.out.lp; omega)).trans (Hb5.out.block b hb)))
       clear hL hL' hS hsz hkp hat hmm
       go_wp2
       go_roundw
       case rel =>
        first
        | exact ⟨j2 + 1, by omega, by go_num, HI4, HB4⟩
        | ((repeat apply Exists.intro); refine ⟨?_, rfl⟩; exact ⟨j2 + 1, by omega, by go_num, HI4, HB4⟩)
       case measure => simp [intOf]; omega
      all_goals intro d t W hs ho hd hw hG hp K hK
      all_goals simp only [fill, Act.put, List.setIfInBounds_toArray, List.set_cons_zero, List.set_cons_succ] at hK ⊢
      ·rw [if_pos (by rfl)]
       go_simp
       exact hK _ _ hG (addE_put (by decide) (by decide) (by decide) rfl) (fun j _ _ h => h)
      ·have e0 := addE_get (hp 0 (hw 0 (by decide))) (by decide) (by decide) (by decide) rfl
       have ha := not_yet (F := 15) (S := 11) hs hd (by kernel_rfl)
       have hold := hG.old ha
       have cx := (HL5.out.below hold).head.cell 1
       simp at cx
       simp only [e0] at hK ⊢
       rw [if_pos (by rfl)]
       go_simp
       exact hK _ _ hG (addE_put (by decide) (by decide) (by decide) rfl) (fun j _ _ h => h)
      ·rw [if_pos (by rfl)]
       go_simp
       exact hK _ _ hG (addE_put (by decide) (by decide) (by decide) rfl) (fun j _ _ h => h)
      ·have e2 := addE_get (hp 2 (hw 2 (by decide))) (by decide) (by decide) (by decide) rfl
       have ha := not_yet (F := 15) (S := 11) hs hd (by kernel_rfl)
       have hold := hG.old ha
       have cx := (Hs5.out.keep hold).bv.cell 1
       rw [Hvc.out] at cx
       simp at cx
       simp only [e2] at hK ⊢
       rw [if_pos (by rfl)]
       go_simp
       exact hK _ _ hG (addE_put (by decide) (by decide) (by decide) rfl) (fun j _ _ h => h)
      ·rw [if_pos (by rfl)]
       go_simp
       exact hK _ _ hG (addE_put (by decide) (by decide) (by decide) rfl) (fun j _ _ h => h)
      ·rw [if_pos (by rfl)]
       go_simp
       exact hK _ _ hG (addE_put (by decide) (by decide) (by decide) rfl) (fun j _ _ h => h)
      ·have e4 := addE_get (hp 4 (hw 4 (by decide))) (by decide) (by decide) (by decide) rfl
       have e5 := addE_get (hp 5 (hw 5 (by decide))) (by decide) (by decide) (by decide) rfl
       simp only [e4, e5] at hK ⊢
       rw [if_pos (by rfl)]
       go_simp
       exact hK _ _ hG (addE_put (by decide) (by decide) (by decide) rfl) (fun j _ _ h => h)
      ·have e6 := addE_get (hp 6 (hw 6 (by decide))) (by decide) (by decide) (by decide) rfl
       have ha := not_yet (F := 15) (S := 11) hs hd (by kernel_rfl)
       have hold := hG.old ha
       have cx : W.cell? ⟨gt, j2, none⟩ = some (.int .i64 (q : Int)) := by rw [hold.cell (p := ⟨gt, j2, none⟩) (Nat.lt_of_lt_of_le Hgl.out Hb5.out.size), Hb5.out.cell (p := ⟨gt, j2, none⟩) Hgl.out]; exact Hgq.out
       simp only [e6] at hK ⊢
       rw [if_pos (by rfl)]
       go_simp
       exact hK _ _ hG (addE_put (by decide) (by decide) (by decide) rfl) (fun j _ _ h => h)
      ·rw [if_pos (by rfl)]
       go_simp
       exact hK _ _ hG (addE_put (by decide) (by decide) (by decide) rfl) (fun j _ _ h => h)
      ·have e3 := addE_get (hp 3 (hw 3 (by decide))) (by decide) (by decide) (by decide) rfl
       have e7 := addE_get (hp 7 (hw 7 (by decide))) (by decide) (by decide) (by decide) rfl
       have e8 := addE_get (hp 8 (hw 8 (by decide))) (by decide) (by decide) (by decide) rfl
       simp only [e3, e7, e8] at hK ⊢
       rw [if_pos (by rfl)]
       go_simp
       exact hK _ _ hG (addE_put (by decide) (by decide) (by decide) rfl) (fun j _ _ h => h)
      ·have ha := not_yet (F := 15) (S := 11) hs hd (by kernel_rfl)
       have hold := hG.old ha
       have hS := not_yet (F := 15) (S := 13) hs hd (by kernel_rfl)
       have e9 := addE_get (hp 9 (hw 9 (by decide))) (by decide) (by decide) (by decide) rfl
       have h2 : AddG w n x v Wl.heap.size P N ej (Mail.mk (k : Int) (q : Int) tx) (.slice ba2 bl2 bc2) y W5 false false W := by have h3 := hG; rw [ha, hS] at h3; exact h3
       simp only [e9] at hK ⊢
       rw [if_pos (by rfl)]
       go_simp
       have hBn : Below W.heap.size W (W.alloc (.cells #[.int .i64 (Mail.mk (k : Int) (q : Int) tx).F, .int .i64 (Mail.mk (k : Int) (q : Int) tx).T, .string ⟨(Mail.mk (k : Int) (q : Int) tx).b.toArray⟩] 69)) := (Below.refl _ W).alloc (Nat.le_refl _) _
       refine hK _ _ (by show AddG w n x v Wl.heap.size P N ej (Mail.mk (k : Int) (q : Int) tx) (.slice ba2 bl2 bc2) y W5 (d 11) (d 13) _; rw [ha, hS]; exact h2.keep hBn) (addE_8.2 (fun _ => ⟨_, rfl, Blk.new W _ _⟩)) (fun j _ _ h => addE_keep hBn h)
      ·have hS := not_yet (F := 15) (S := 13) hs hd (by kernel_rfl)
       have h8 := addE_8.1 (hp 10 (hw 10 (by decide))) hd
       obtain ⟨g8, e8, hk8⟩ := h8
       have e1 := addE_get (hp 1 (hw 1 (by decide))) (by decide) (by decide) (by decide) rfl
       have h2 : AddG w n x v Wl.heap.size P N ej (Mail.mk (k : Int) (q : Int) tx) (.slice ba2 bl2 bc2) y W5 false false W := by have h3 := hG; rw [hd, hS] at h3; exact h3
       obtain ⟨g9, c9, W9, hrun, hG9, ho9, hat9⟩ := h2.append HL5.out (Hlj.out) hk8 29
       simp only [e1] at hK ⊢
       simp only [e8] at hK ⊢
       rw [if_pos (by rfl)]
       refine wp_append_run (by rfl) _ _ 29 (by rfl) _ _ (by rfl) (by rfl) _ W9 hrun ?_
       refine hK _ W9 (by show AddG w n x v Wl.heap.size P N ej (Mail.mk (k : Int) (q : Int) tx) (.slice ba2 bl2 bc2) y W5 (updB d 11 11) (d 13) W9; rw [hS, show updB d 11 11 = true by simp [updB]]; exact hG9) ((addE_9 (by decide)).2 (fun _ => ⟨g9, c9, rfl, ho9, hat9⟩)) (fun jj hj hdj h => ?_)
       have h' : addE [.pointer (some ⟨P, 1, none⟩), .slice ba2 bl2 bc2, .pointer (some ⟨w.heap.size + 1 + 1, 1, none⟩), .int .i64 (k : Int), .slice (some ⟨gt, 0, none⟩) kl tc, .int .i64 (j2 : Int), .pointer (some ⟨gt, j2, none⟩), .int .i64 (q : Int), .string ⟨tx.toArray⟩, .agg #[.int .i64 (k : Int), .int .i64 (q : Int), .string ⟨tx.toArray⟩], undef, undef, .pointer (some ⟨P, 1, none⟩), undef] 10 11 13 Wl.heap.size (ej).bag (Mail.mk (k : Int) (q : Int) tx) (.slice ba2 bl2 bc2) W5 false false jj (t jj) W := by have h2 := h; rw [hd, hS] at h2; exact h2
       show addE [.pointer (some ⟨P, 1, none⟩), .slice ba2 bl2 bc2, .pointer (some ⟨w.heap.size + 1 + 1, 1, none⟩), .int .i64 (k : Int), .slice (some ⟨gt, 0, none⟩) kl tc, .int .i64 (j2 : Int), .pointer (some ⟨gt, j2, none⟩), .int .i64 (q : Int), .string ⟨tx.toArray⟩, .agg #[.int .i64 (k : Int), .int .i64 (q : Int), .string ⟨tx.toArray⟩], undef, undef, .pointer (some ⟨P, 1, none⟩), undef] 10 11 13 Wl.heap.size (ej).bag (Mail.mk (k : Int) (q : Int) tx) (.slice ba2 bl2 bc2) W5 (updB d 11 11) (updB d 11 13) jj (t jj) W9
       rw [show updB d 11 11 = true by simp [updB], show updB d 11 13 = false from hS]
       exact addE_a W9 hj h'
      ·rw [if_pos (by rfl)]
       go_simp
       exact hK _ _ hG (addE_put (by decide) (by decide) (by decide) rfl) (fun j _ _ h => h)
      ·have h9 := done_back (F := 15) hs ho hw (S := 11) (by kernel_rfl) (by decide)
       have h9e := (addE_9 (by decide)).1 (hp 11 (hw 11 (by decide))) hd
       obtain ⟨g9, c9, e9, ho9, hat9⟩ := h9e
       have e12 := addE_get (hp 12 (hw 12 (by decide))) (by decide) (by decide) (by decide) rfl
       have h2 : AddG w n x v Wl.heap.size P N ej (Mail.mk (k : Int) (q : Int) tx) (.slice ba2 bl2 bc2) y W5 true false W := by have h3 := hG; rw [h9, hd] at h3; exact h3
       have hh := h2.head HL5.out
       have cq := hh.cell 1
       have fq := hh.frozen 1
       simp at cq
       have hN := h2.store HL5.out Hs5.out (by have := Hzr.out; omega) ho9 hat9
       have HNE : Hid (∀ jj, addE [.pointer (some ⟨P, 1, none⟩), .slice ba2 bl2 bc2, .pointer (some ⟨w.heap.size + 1 + 1, 1, none⟩), .int .i64 (k : Int), .slice (some ⟨gt, 0, none⟩) kl tc, .int .i64 (j2 : Int), .pointer (some ⟨gt, j2, none⟩), .int .i64 (q : Int), .string ⟨tx.toArray⟩, .agg #[.int .i64 (k : Int), .int .i64 (q : Int), .string ⟨tx.toArray⟩], undef, undef, .pointer (some ⟨P, 1, none⟩), undef] 10 11 13 Wl.heap.size (ej).bag (Mail.mk (k : Int) (q : Int) tx) (.slice ba2 bl2 bc2) W5 (d 11) (d 13) jj (t jj) W → addE [.pointer (some ⟨P, 1, none⟩), .slice ba2 bl2 bc2, .pointer (some ⟨w.heap.size + 1 + 1, 1, none⟩), .int .i64 (k : Int), .slice (some ⟨gt, 0, none⟩) kl tc, .int .i64 (j2 : Int), .pointer (some ⟨gt, j2, none⟩), .int .i64 (q : Int), .string ⟨tx.toArray⟩, .agg #[.int .i64 (k : Int), .int .i64 (q : Int), .string ⟨tx.toArray⟩], undef, undef, .pointer (some ⟨P, 1, none⟩), undef] 10 11 13 Wl.heap.size (ej).bag (Mail.mk (k : Int) (q : Int) tx) (.slice ba2 bl2 bc2) W5 true true jj (t jj) (W.setCell ⟨P, 1, none⟩ (.slice (some ⟨g9, 0, none⟩) ((ej).bag.length + 1) c9))) := hide (fun jj h => by rw [h9, hd] at h; exact addE_s _ h)
       have HN := hide hN
       simp only [e12] at hK ⊢
       simp only [e9] at hK ⊢
       rw [if_pos (by rfl)]
       clear hN hh ho9 hat9
       go_simp
       refine hK undef _ (by show AddG w n x v Wl.heap.size P N ej (Mail.mk (k : Int) (q : Int) tx) (.slice ba2 bl2 bc2) y W5 (d 11) (updB d 13 13) _; rw [h9, show updB d 13 13 = true by simp [updB]]; exact HN.out) (addE_S (by decide) (by decide)) (fun jj hj hdj h => ?_)
       show addE [.pointer (some ⟨P, 1, none⟩), .slice ba2 bl2 bc2, .pointer (some ⟨w.heap.size + 1 + 1, 1, none⟩), .int .i64 (k : Int), .slice (some ⟨gt, 0, none⟩) kl tc, .int .i64 (j2 : Int), .pointer (some ⟨gt, j2, none⟩), .int .i64 (q : Int), .string ⟨tx.toArray⟩, .agg #[.int .i64 (k : Int), .int .i64 (q : Int), .string ⟨tx.toArray⟩], undef, undef, .pointer (some ⟨P, 1, none⟩), undef] 10 11 13 Wl.heap.size (ej).bag (Mail.mk (k : Int) (q : Int) tx) (.slice ba2 bl2 bc2) W5 (d 11) (updB d 13 13) jj (t jj) _
       rw [h9, show updB d 13 13 = true by simp [updB]]
       exact HNE.out jj h
     all_goals intro t W hG hp K hK
     all_goals simp only [fill, Act.put, List.setIfInBounds_toArray, List.set_cons_zero, List.set_cons_succ] at hK ⊢
     ·rw [if_pos (by rfl)]
      go_simp
      exact hK _ _ hG rfl (fun _ _ _ h => h)
     ·have e0 := valsE_get (hp 0 (by decide)) rfl
      have cx := (Hsw.out.keep hG).bv.cell 1
      rw [Hvc.out] at cx
      simp at cx
      simp only [e0] at hK ⊢
      rw [if_pos (by rfl)]
      go_simp
      exact hK _ _ hG rfl (fun _ _ _ h => h)
     ·rw [if_pos (by rfl)]
      go_simp
      exact hK _ _ hG rfl (fun _ _ _ h => h)
     ·rw [if_pos (by rfl)]
      go_simp
      exact hK _ _ hG rfl (fun _ _ _ h => h)
     ·have e2 := valsE_get (hp 2 (by decide)) rfl
      have e3 := valsE_get (hp 3 (by decide)) rfl
      simp only [e2, e3] at hK ⊢
      rw [if_pos (by rfl)]
      go_simp
      exact hK _ _ hG rfl (fun _ _ _ h => h)
     ·have e4 := valsE_get (hp 4 (by decide)) rfl
      have cx : W.cell? ⟨gt, j2, none⟩ = some (.int .i64 (q : Int)) := by rw [hG.cell (p := ⟨gt, j2, none⟩) (Nat.lt_of_lt_of_le Hgl.out HBr.out.size), HBr.out.cell (p := ⟨gt, j2, none⟩) Hgl.out]; exact Hgq.out
      simp only [e4] at hK ⊢
      rw [if_pos (by rfl)]
      go_simp
      exact hK _ _ hG rfl (fun _ _ _ h => h)
     ·rw [if_pos (by rfl)]
      go_simp
      exact hK _ _ hG rfl (fun _ _ _ h => h)
     ·have e6 := valsE_get (hp 6 (by decide)) rfl
      have cx := (HLr.out.below hG).head.cell 0
      simp at cx
      simp only [e6] at hK ⊢
      rw [if_pos (by rfl)]
      go_simp
      exact hK _ _ hG rfl (fun _ _ _ h => h)
     ·rw [if_pos (by rfl)]
      go_simp
      exact hK _ _ hG rfl (fun _ _ _ h => h)
     ·have e8 := valsE_get (hp 8 (by decide)) rfl
      have cx := (Hsw.out.keep hG).bv.cell 1
      rw [Hvc.out] at cx
      simp at cx
      simp only [e8] at hK ⊢
      rw [if_pos (by rfl)]
      go_simp
      exact hK _ _ hG rfl (fun _ _ _ h => h)
     ·have e7 := valsE_get (hp 7 (by decide)) rfl
      have e9 := valsE_get (hp 9 (by decide)) rfl
      simp only [e7, e9] at hK ⊢
      rw [if_pos (by rfl)]
      go_simp
      exact hK _ _ hG rfl (fun _ _ _ h => h)
     ·have e10 := valsE_get (hp 10 (by decide)) rfl
      simp only [e10] at hK ⊢
      rw [if_pos (by rfl)]
      go_simp
      exact hK _ _ hG rfl (fun _ _ _ h => h)
     ·have e11 := valsE_get (hp 11 (by decide)) rfl
      have cx := (HLr.out.below hG).rtrs.cell (k * 2)
      rw [(HLr.out.below hG).r0 k HkN.out] at cx
      simp only [e11] at hK ⊢
      rw [if_pos (by rfl)]
      go_simp
      exact hK _ _ hG rfl (fun _ _ _ h => h)
     ·have e1 := valsE_get (hp 1 (by decide)) rfl
      have e5 := valsE_get (hp 5 (by decide)) rfl
      have e12 := valsE_get (hp 12 (by decide)) rfl
      simp only [e1, e5, e12] at hK ⊢
      rw [if_pos (by rfl)]
      go_simp
      exact hK _ _ hG rfl (fun _ _ _ h => h)
     ·have e13 := valsE_get (hp 13 (by decide)) rfl
      simp only [e13] at hK ⊢
      rw [if_pos (by rfl)]
      go_simp
      go_at_call 32
      refine (HWr.out W hG).mono ?_
      rintro r W' ⟨rfl, hb'⟩
      go_simp
      exact hK _ W' (hG.trans (hb'.mono hG.size)) rfl (fun _ _ _ h => h)
     ·have e14 := valsE_get (hp 14 (by decide)) rfl
      simp only [e14] at hK ⊢
      rw [if_pos (by rfl)]
      go_simp
      exact hK _ _ hG rfl (fun _ _ _ h => h)
     ·have e15 := valsE_get (hp 15 (by decide)) rfl
      simp only [e15] at hK ⊢
      rw [if_pos (by rfl)]
      go_simp
      exact hK _ _ hG rfl (fun _ _ _ h => h)
     ·have e15 := valsE_get (hp 15 (by decide)) rfl
      simp only [e15] at hK ⊢
      rw [if_pos (by rfl)]
      go_simp
      exact hK _ _ hG rfl (fun _ _ _ h => h)
     ·have e16 := valsE_get (hp 16 (by decide)) rfl
      simp only [e16] at hK ⊢
      rw [if_pos (by rfl)]
      go_simp
      exact hK _ _ hG rfl (fun _ _ _ h => h)
     ·have e17 := valsE_get (hp 17 (by decide)) rfl
      simp only [e17] at hK ⊢
      rw [if_pos (by rfl)]
      go_simp
      exact hK _ _ hG rfl (fun _ _ _ h => h)
    ·have hjn : j2 = kl := by omega
     have hji : ¬ (j2 : Int) < (kl : Int) := by omega
     obtain ⟨Bv, hL⟩ := HI.out
     rw [hjn, Hkl.out, ← Hstep.out] at hL
     obtain ⟨ba2, bc2, hBv⟩ := own_form hL.bag
     generalize (x.eng.step n.net v.ev).bag.length = bl2 at hBv
     subst hBv
     have HS := hide (Hsr.out.keep HBr.out)
     have p0 := hL.head.cell 0
     have p1 := hL.head.cell 1
     simp at p0 p1
     have Hrf : Hid (x.eng.step n.net v.ev = x.eng.step n.net v.ev) := hide rfl
     clear HI hjn
     have HF := hide (step_fin hL HS.out (by have := Hzr.out; omega) HR.out.check HN.out (by rw [← Hrf.out]; exact HR.out.fit.step (Net.good_of_check HR.out.check) Her.out) Hrf.out.symm Her.out)
     have c7 := (HS.out.br.set 0 (.slice (some ⟨y.G, 0, none⟩) N y.gc)).set 1 (.slice ba2 bl2 bc2)
     have e0 := c7.cell 0
     have e1 := c7.cell 1
     simp at e0 e1
     have r0 := HS.out.br.cell 0
     have r1 := HS.out.br.cell 1
     have fr0 := HS.out.br.frozen 0
     have fr1 := HS.out.br.frozen 1
     simp at r0 r1
     clear c7 hL
     go_wp2
     exact bodyPost_ret (v := .tuple #[.agg #[.slice (some ⟨y.G, 0, none⟩) N y.gc, .slice ba2 bl2 bc2], .int .i64 0]) (by simp [results, Tryz.results10, go_sem, e0, e1]) rfl HF.out

end Go.Proofs.YtjhkadffaephmabGreat

/-
  The document's reckoning of packets: ReadOf.
-/
namespace Go.Proofs.YtjhkadffaephmabGreat
set_option maxRecDepth 100000
open Go.RowKit

/-- When bytes are a packet's, byte by byte. -/
theorem readErr_split {a b c d : UInt8} {r : List UInt8} {x y : UInt8} (h : r.length ≤ 54) :
    readErr ([a, b, c, d] ++ r ++ [x, y]) = if a.toNat = 83 ∧ d.toNat = r.length ∧ b.toNat ≤ 250 ∧ c.toNat ≤ 250 ∧ (∀ i, i < r.length → (r.getD i 0).toNat ≤ 250) ∧ sumOf ([a, b, c, d] ++ r) = 256 * x.toNat + y.toNat then 0 else 1 := by
  have hlen : ([a, b, c, d] ++ r ++ [x, y]).length = r.length + 6 := by simp
  unfold readErr
  rw [if_neg (by omega), if_neg (by omega)]
  have hbi := bytes_iff (a := a) (b := b) (c := c) (d := d) (x := x) (y := y) h
  have hs := packet_split a b c d r x y
  have herr : (packet ([a, b, c, d] ++ r ++ [x, y])).err = 0 ↔ b.toNat ≤ 250 ∧ c.toNat ≤ 250 ∧ ∀ i, i < r.length → (r.getD i 0).toNat ≤ 250 := by
    rw [Pkt.same_err hs]
    constructor
    · intro e
      have := (Pkt.err_ok e).1
      unfold Pkt.inRange inB at this
      simp only [Bool.and_eq_true, decide_eq_true_eq] at this
      refine ⟨by omega, by omega, fun i hi => ?_⟩
      have := (Pkt.routesIn_iff.1 this.2 i hi).2
      simp only at this
      omega
    · rintro ⟨h1, h2, h3⟩
      apply Pkt.err_of
      · unfold Pkt.inRange inB
        simp only [Bool.and_eq_true, decide_eq_true_eq]
        exact ⟨⟨⟨by omega, by omega⟩, ⟨by omega, by omega⟩⟩, Pkt.routesIn_iff.2 fun i hi => by have := h3 i hi; simp only; omega⟩
      · show r.length + 6 ≤ 60
        omega
  have ha : a = 83 ↔ a.toNat = 83 := ⟨fun e => by rw [e]; rfl, fun e => UInt8.toNat_inj.1 (by rw [e]; rfl)⟩
  by_cases hc : a.toNat = 83 ∧ d.toNat = r.length ∧ b.toNat ≤ 250 ∧ c.toNat ≤ 250 ∧ (∀ i, i < r.length → (r.getD i 0).toNat ≤ 250) ∧ sumOf ([a, b, c, d] ++ r) = 256 * x.toNat + y.toNat
  · rw [if_pos hc, if_pos ⟨herr.2 ⟨hc.2.2.1, hc.2.2.2.1, hc.2.2.2.2.1⟩, hbi.2 ⟨ha.2 hc.1, hc.2.1, hc.2.2.2.2.2⟩⟩]
  · rw [if_neg hc, if_neg]
    rintro ⟨e1, e5⟩
    obtain ⟨e2, e3, e4⟩ := hbi.1 e5
    have := herr.1 e1
    exact hc ⟨ha.1 e2, e3, this.1, this.2.1, this.2.2, e4⟩

set_option maxHeartbeats 4000000 in
theorem readOf_bad (l : List UInt8) (w : World) (h60 : l.length ≤ 60) (hx : readErr l = 1)
    (hbad : l.length < 6 ∨ (6 ≤ l.length ∧ (l.getD 0 0).toNat ≠ 83) ∨ (6 ≤ l.length ∧ (l.getD 0 0).toNat = 83 ∧ (l.getD 3 0).toNat ≠ l.length - 6) ∨
      (6 ≤ l.length ∧ (l.getD 0 0).toNat = 83 ∧ (l.getD 3 0).toNat = l.length - 6 ∧ 250 < (l.getD 1 0).toNat) ∨
      (6 ≤ l.length ∧ (l.getD 0 0).toNat = 83 ∧ (l.getD 3 0).toNat = l.length - 6 ∧ ¬ 250 < (l.getD 1 0).toNat ∧ 250 < (l.getD 2 0).toNat)) :
    Calls Tryz.prog 34 #[txt l] w fun e w' => ReadAns l w.heap.size e w' ∧ Below w.heap.size w w' := by
  have hsz : (ByteArray.mk l.toArray).size = l.length := by simp [ByteArray.size]
  have b0 := Blk.new w #[.int .i64 0, .int .i64 0, .slice none 0 0] 76
  have HBe : Hid (Below w.heap.size w (w.alloc (.cells #[.int .i64 0, .int .i64 0, .slice none 0 0] 76))) := hide ((Below.refl _ w).alloc (Nat.le_refl _) _)
  have d0 := b0.cell 0
  have d1 := b0.cell 1
  have d2 := b0.cell 2
  have df := b0.frozen
  simp at d0 d1 d2
  have Hx := hide hx
  have hg : ∀ (i : Nat) (h : i < (ByteArray.mk l.toArray).size), ((ByteArray.mk l.toArray)[i]).toNat = (l.getD i 0).toNat := fun i h => by rw [read_idx h]
  have g0 := hg 0
  have g1 := hg 1
  have g2 := hg 2
  have g3 := hg 3
  have l0 := (l.getD 0 0).toNat_lt
  have l1 := (l.getD 1 0).toNat_lt
  have l2 := (l.getD 2 0).toNat_lt
  have l3 := (l.getD 3 0).toNat_lt
  clear hx hg b0
  unfold txt
  generalize (l.getD 0 0).toNat = c0 at *
  generalize (l.getD 1 0).toNat = c1 at *
  generalize (l.getD 2 0).toNat = c2 at *
  generalize (l.getD 3 0).toNat = c3 at *
  generalize ByteArray.mk l.toArray = s at *
  have h60i : ¬ (60 : Int) < (s.size : Int) := by omega
  rcases hbad with h | ⟨h, h0⟩ | ⟨h, h0, h3⟩ | ⟨h, h0, h3, h1⟩ | ⟨h, h0, h3, h1, h2⟩
  · have h6i : (s.size : Int) < 6 := by omega
    clear h g0 g1 g2 g3
    go_enter Tryz.func34, Tryz.ntmps34
    go_wp2
    exact bodyPost_ret (v := .tuple #[.agg #[.int .i64 0, .int .i64 0, .slice none 0 0], .int .i64 1]) (by simp [results, Tryz.results34, go_sem]) rfl ⟨readAns_bad Hx.out (by decide), HBe.out⟩
  · have h6i : ¬ (s.size : Int) < 6 := by omega
    have q0 : ((c0 : Int) != 83) = true := by simp; omega
    clear h0
    go_enter Tryz.func34, Tryz.ntmps34
    go_wp2
    exact bodyPost_ret (v := .tuple #[.agg #[.int .i64 0, .int .i64 0, .slice none 0 0], .int .i64 1]) (by simp [results, Tryz.results34, go_sem]) rfl ⟨readAns_bad Hx.out (by decide), HBe.out⟩
  · have h6i : ¬ (s.size : Int) < 6 := by omega
    subst h0
    have q3 : ((c3 : Int) != (l.length : Int) - 6) = true := by simp; omega
    clear h3
    go_enter Tryz.func34, Tryz.ntmps34
    go_wp2
    exact bodyPost_ret (v := .tuple #[.agg #[.int .i64 0, .int .i64 0, .slice none 0 0], .int .i64 1]) (by simp [results, Tryz.results34, go_sem]) rfl ⟨readAns_bad Hx.out (by decide), HBe.out⟩
  · have h6i : ¬ (s.size : Int) < 6 := by omega
    subst h0
    have q3 : ((c3 : Int) != (l.length : Int) - 6) = false := by simp; omega
    have q1 : (250 : Int) < (c1 : Int) := by omega
    clear h3 h1
    go_enter Tryz.func34, Tryz.ntmps34
    go_wp2
    exact bodyPost_ret (v := .tuple #[.agg #[.int .i64 0, .int .i64 0, .slice none 0 0], .int .i64 1]) (by simp [results, Tryz.results34, go_sem]) rfl ⟨readAns_bad Hx.out (by decide), HBe.out⟩
  · have h6i : ¬ (s.size : Int) < 6 := by omega
    subst h0
    have q3 : ((c3 : Int) != (l.length : Int) - 6) = false := by simp; omega
    have q1 : ¬ (250 : Int) < (c1 : Int) := by omega
    have q2 : (250 : Int) < (c2 : Int) := by omega
    clear h3 h1 h2
    go_enter Tryz.func34, Tryz.ntmps34
    go_wp2
    exact bodyPost_ret (v := .tuple #[.agg #[.int .i64 0, .int .i64 0, .slice none 0 0], .int .i64 1]) (by simp [results, Tryz.results34, go_sem]) rfl ⟨readAns_bad Hx.out (by decide), HBe.out⟩

/-- The append of one number, run ahead. -/
theorem append_run (W : World) (C : Nat) (V : Value) (k : Nat) (f : Nat → Int) (x : Int) (ho : W.ownsRow C 3 1 V k (intsL f k)) (hk : k ≤ 100) (hC : C ≤ W.heap.size) (ty : TypeId) :
    ∃ g cap W4, (Builtin.append_ #[32, 32] ty #[V, .slice (some ⟨W.heap.size, 0, none⟩) 1 1]).run Tryz.prog (W.alloc (.cells #[.int .i64 x] 3)).drew = .ok (.slice (some ⟨g, 0, none⟩) (k + 1) cap) W4 ∧
      W4.ownsRow C 3 1 (.slice (some ⟨g, 0, none⟩) (k + 1) cap) (k + 1) (intsL f k ++ [.int .i64 x]) ∧ Below C W W4 := by
  obtain ⟨i1, hi1, hy0, hy1, hy2⟩ := info_parts Tryz.infoInt
  have hb : Below C W (W.alloc (.cells #[.int .i64 x] 3)).drew := ((Below.refl C W).alloc hC _).trans ⟨rfl, rfl, rfl, Nat.le_refl _, fun _ _ => rfl⟩
  have ho2 : (W.alloc (.cells #[.int .i64 x] 3)).drew.ownsRow C 3 1 V k (intsL f k) := (ho.alloc _).drew
  obtain ⟨g, cap, w', hr, h2, h3, h4, h5⟩ := run_append_lies (P := Tryz.prog) (W.alloc (.cells #[.int .i64 x] 3)).drew 32 ty C 3 i1 _ 1 8 Tryz.underlying32 hi1 hy0 hy1 hy2 rfl (by decide) V k _ ho2 ⟨W.heap.size, 0, none⟩ 1 1 [.int .i64 x] rfl (World.news_of_block (cs := #[.int .i64 x]) (show (W.alloc (.cells #[.int .i64 x] 3)).drew.heap[W.heap.size]? = _ from heap_alloc_new W _)) (by simp [Value.oneCell']) (by decide) (by unfold maxLen; omega) (by omega) (Nat.le_trans hC hb.size) _ rfl
  exact ⟨g, cap, w', hr, h2, hb.trans (grown_below h3 (fun g hg => (ho.lt g hg).1) (Nat.le_trans hC hb.size))⟩

end Go.Proofs.YtjhkadffaephmabGreat
