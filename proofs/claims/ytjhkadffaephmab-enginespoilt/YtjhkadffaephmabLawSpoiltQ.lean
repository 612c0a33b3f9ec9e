/-
  signpostlaw.EngineSpoilt.
-/
import Derived.Test.YtjhkadffaephmabBundleGG
import Derived.Test.YtjhkadffaephmabBundleGH
import Derived.Test.YtjhkadffaephmabBundleDA
namespace Go.Proofs.Ytjhkadffaephmab
set_option maxRecDepth 100000
open Go.RowKit

def bareEv (a b c d : Int) : EvM := ⟨a, b, c, d, none, 0, 0, 0, 0, fun _ => 0⟩

set_option maxHeartbeats 8000000 in
theorem engineSpoilt_any (n : NetM) (x : EngM) (loc b c : Int) (w : World) (h : n.In w.heap.size w) (hx : x.In w.heap.size w) (a0 : -9223372036854775808 ≤ loc) (a1 : loc ≤ 9223372036854775807) (b0 : -9223372036854775808 ≤ b) (b1 : b ≤ 9223372036854775807) (c0 : -9223372036854775808 ≤ c) (c1 : c ≤ 9223372036854775807) :
    Calls Try.prog 5 #[n.val, x.val, .int .i64 loc, .int .i64 b, .int .i64 c] w fun e w' => e = .returned (.bool true) ∧ Below w.heap.size w w' := by
  obtain ⟨W1, hW1⟩ : ∃ W1, W1 = (w.alloc (.cells n.cells 41)).alloc (.cells x.cells 45) := ⟨_, rfl⟩
  have hB1 : Below w.heap.size w W1 := by rw [hW1]; exact ((Below.refl _ w).alloc (Nat.le_refl _) _).alloc (by simp) _
  have b5 : Blk W1 w.heap.size n.cells 41 := by rw [hW1]; exact (Blk.new w _ _).alloc _
  have b6 : Blk W1 (w.heap.size + 1) x.cells 45 := by rw [hW1]; exact Blk.new' (by simp)
  have H := hide h
  have Hx := hide hx
  have HB1 := hide hB1
  have Hb5 := hide b5
  have Hb6 := hide b6
  have HA := hide (And.intro a0 a1)
  have HBr := hide (And.intro b0 b1)
  have HCr := hide (And.intro c0 c1)
  have HCk := hide (fun W (hb : Below w.heap.size w W) => engineCheck_any n x W (h.grown hb) (hx.grown hb))
  simp only [NetM.val, NetM.cells, Mat.val, EngM.val, EngM.cells] at hW1 HCk ⊢
  have HW1 := hide hW1
  clear h hx hB1 b5 b6 hW1 a0 a1 b0 b1 c0 c1
  go_enter Try.func5, Try.ntmps5
  go_wp2_with fail
  rw [← HW1.out]
  go_at_call 19
  refine (engineBegun_any _).mono ?_
  rintro e W2 ⟨rfl, hb2⟩
  have HB2 := hide (HB1.out.trans (hb2.mono HB1.out.size))
  have Hb5' := hide (Hb5.out.below hb2 Hb5.out.lt)
  have Hb6' := hide (Hb6.out.below hb2 Hb6.out.lt)
  have n0 := Hb5'.out.cell 0
  have n1 := Hb5'.out.cell 1
  have n2 := Hb5'.out.cell 2
  have n3 := Hb5'.out.cell 3
  have n4 := Hb5'.out.cell 4
  have x0 := Hb6'.out.cell 0
  have x1 := Hb6'.out.cell 1
  simp [NetM.cells, Mat.val] at n0 n1 n2 n3 n4
  simp [EngM.cells] at x0 x1
  have HC := hide (HCk.out W2 HB2.out)
  clear hb2 HCk Hb5 Hb6 HB1 HW1
  go_wp2_with fail
  go_at_call 20
  refine HC.out.mono ?_
  rintro e W3 ⟨rfl, hb3⟩
  have HB3 := hide (HB2.out.trans (hb3.mono HB2.out.size))
  have Hb5 := hide (Hb5'.out.below hb3 Hb5'.out.lt)
  have Hb6 := hide (Hb6'.out.below hb3 Hb6'.out.lt)
  clear hb3 HC HB2 Hb5' Hb6' n0 n1 n2 n3 n4 x0 x1
  by_cases hck : x.err n.net = 0
  rotate_left
  · have hne : (x.err n.net != 0) = true := by simpa using hck
    generalize x.err n.net = er at *
    clear hck
    go_wp2_with fail
    go_at_call 19
    refine (engineBegun_any _).mono ?_
    rintro e W4 ⟨rfl, hb4⟩
    have HF := hide (HB3.out.trans (hb4.mono HB3.out.size))
    clear hb4
    go_wp2
    go_ret
    exact ⟨rfl, HF.out⟩
  rw [hck]
  have Hck := hide hck
  have hchk : n.net.check = 0 := by
    have := hck
    unfold EngM.err at this
    split at this
    · next h1 => exact absurd this h1
    · next h1 => omega
  obtain ⟨N, hN⟩ : ∃ N : Nat, n.nodes = N := ⟨n.nodes.toNat, by have := (Net.good_of_check hchk).lo; have : n.net.nodes = n.nodes := rfl; omega⟩
  obtain ⟨hN0, hN6, hNN, hnn⟩ := nodes_six hchk hN
  have HR := hide (EngM.right hck hnn)
  have Hg := hide (Net.good_of_check hchk)
  have Hnn := hide hnn
  have Hbl : Hid (x.eng.bag.length = x.bag.bn) := hide (by show ((List.range x.bag.bn).map x.bag.M).length = _; simp)
  have hbn := HR.out.bn
  obtain ⟨ch, hch⟩ : ∃ ch, ch = chooseV loc n.nodes := ⟨_, rfl⟩
  have hchr : 0 ≤ ch ∧ ch < n.nodes := by rw [hch]; exact chooseV_in (by omega)
  have HChA := hide (fun W => choose_any loc n.nodes W (by omega) (by omega) HA.out.1 HA.out.2)
  rw [← hch] at HChA
  have Hchr := hide hchr
  have HSt := hide (fun W (hb : Below w.heap.size w W) => step_one n x (bareEv 1 ch 0 0) W (H.out.grown hb) (Hx.out.grown hb) bareEv_in Hck.out)
  obtain ⟨er, her⟩ : ∃ er, er = x.eng.stepErr n.net (bareEv 1 ch 0 0).ev := ⟨_, rfl⟩
  have Her := hide her
  rw [← her] at HSt
  simp only [NetM.val, NetM.cells, Mat.val, EngM.val, EngM.cells, EvM.val, EvM.cells, bareEv] at HSt
  have HLO : Hid (W3.heap.size ≤ W3.heap.size) := hide (Nat.le_refl _)
  have HLW : Hid (W3.heap.size ≤ W3.heap.size) := hide (Nat.le_refl _)
  clear hck hchk hch hchr her hnn hNN hN
  have y0 := Hb6.out.cell 0
  have y1 := Hb6.out.cell 1
  simp [EngM.cells] at y0 y1
  go_wp2_with fail
  clear y0 y1
  refine wp_region_mark 12 14 (fun _ W => Below W3.heap.size W3 W) (boxE [.agg #[.int .i64 n.a.size, .slice n.a.B.ga n.a.B.t.len n.a.B.cap, .slice n.a.E.ga n.a.E.t.len n.a.E.cap, .int .i64 n.nodes, .slice n.la n.ln n.lc], .agg #[.slice x.rs.ga x.rs.gn x.rs.gc, .slice x.bag.ba x.bag.bn x.bag.bc], .int .i64 loc, .pointer (some ⟨w.heap.size, 3, none⟩), .int .i64 n.nodes, .int .i64 ch, .agg #[.int .i64 1, .int .i64 ch, .int .i64 0, .int .i64 0, .slice none 0 0], undef, undef, undef, .int .i64 er, undef, undef, .int .i64 er] 7 (er) (fun m => m.From W3.heap.size ∧ (er = 0 → m.err n.net = 0 ∧ m.eng = x.eng.step n.net (bareEv 1 ch 0 0).ev)) (W3.heap.size)) (by kernel_rfl) (by kernel_rfl) (by kernel_rfl) (by decide) (⟨rfl, rfl, rfl, Nat.le_refl _, fun _ _ => rfl⟩) ⟨?_, ?_, ?_, ?_, ?_, ?_, ?_, ?_, ?_, ?_, ?_, ?_, ?_, ?_, trivial⟩ ?_
  rotate_right
  · intro t4 W4 hG hE
    have e13 := boxE_get (hE 13 (by decide)) (by decide) rfl
    obtain ⟨q4, eq, hlq4, _, hqm⟩ := boxE_c4.1 (hE 11 (by decide))
    obtain ⟨m4, hm⟩ := hqm rfl
    have HG4 := hide hG
    have Hm4 := hide hm
    clear hE hG hm hqm
    simp only [fill, Act.put, List.setIfInBounds_toArray, List.set_cons_zero, List.set_cons_succ, e13, eq]
    clear e13 eq
    by_cases hz : er = 0
    rotate_left
    · have hne : (er != 0) = true := by simpa using hz
      have HF := hide (HB3.out.trans (HG4.out.mono HB3.out.size))
      clear hz Her HSt
      go_wp2
      go_ret
      exact ⟨rfl, HF.out⟩
    subst hz
    obtain ⟨hmF, hmOk⟩ := Hm4.out.ok
    obtain ⟨hme, hmg⟩ := hmOk rfl
    have u0 := Hm4.out.blk.cell 0
    have u1 := Hm4.out.blk.cell 1
    simp [EngM.cells] at u0 u1
    by_cases hlen : m4.bag.bn = x.bag.bn
    · have hle : ((m4.bag.bn : Int) == (x.bag.bn : Int)) = true := by simp [hlen]
      have HF := hide (HB3.out.trans (HG4.out.mono HB3.out.size))
      clear hlen hme hmg hmF hmOk Hm4 Her HSt
      go_wp2
      go_ret
      exact ⟨rfl, HF.out⟩
    have hle : ((m4.bag.bn : Int) == (x.bag.bn : Int)) = false := by simp; omega
    have HRm := hide (EngM.right hme Hnn.out)
    have Hml : Hid (m4.eng.bag.length = m4.bag.bn) := hide (by show ((List.range m4.bag.bn).map m4.bag.M).length = _; simp)
    have hge : x.bag.bn < m4.bag.bn := by
      have h1 := Hml.out
      rw [hmg] at h1
      have h2 : (x.eng.step n.net (bareEv 1 ch 0 0).ev).bag.length = x.eng.bag.length + (n.net.hearers ch.toNat).length := by
        have e1 : x.eng.step n.net (bareEv 1 ch 0 0).ev = x.eng.tick n.net ch.toNat := by simp [Eng.step, bareEv, EvM.ev]
        rw [e1]
        show (x.eng.bag ++ (n.net.hearers ch.toNat).map fun k => (x.eng.look n.net ch.toNat).mail n.net ch.toNat k).length = _
        rw [List.length_append, List.length_map]
      have := Hbl.out
      omega
    have hmb := HRm.out.bn
    obtain ⟨txl, htxl⟩ : ∃ txl, txl = (m4.bag.M x.bag.bn).b := ⟨_, rfl⟩
    have htx : (m4.eng.bag.getD x.bag.bn noMail).b = txl := by rw [htxl]; exact congrArg Mail.b (mails_at m4.bag.M m4.bag.bn x.bag.bn hge)
    have hpos : 0 < txl.length ∧ txl.length ≤ 60 := by
      have h1 := HRm.out.fit.mail _ (getD_mem (d := noMail) (show x.bag.bn < m4.eng.bag.length by rw [Hml.out]; exact hge))
      refine ⟨?_, by rw [← htx]; exact h1.2.2⟩
      rw [← htx, hmg]
      have e1 : x.eng.step n.net (bareEv 1 ch 0 0).ev = x.eng.tick n.net ch.toNat := by simp [Eng.step, bareEv, EvM.ev]
      rw [e1, ← Hbl.out]
      have hNn := n.net.nodes_N Hg.out
      have hcn : ch.toNat < n.net.N := by have := Hchr.out; have h3 : n.net.nodes = n.nodes := rfl; omega
      obtain ⟨q0, l0, hq0⟩ : ∃ q0 l0, n.net.hearers ch.toNat = q0 :: l0 := by
        cases hh : n.net.hearers ch.toNat with
        | nil =>
          exfalso
          have h2 := Hml.out
          rw [hmg, e1] at h2
          have h4 : (x.eng.tick n.net ch.toNat).bag.length = x.eng.bag.length := by
            show (x.eng.bag ++ (n.net.hearers ch.toNat).map fun k => (x.eng.look n.net ch.toNat).mail n.net ch.toNat k).length = _
            rw [hh]; simp
          have := Hbl.out
          omega
        | cons q l => exact ⟨q, l, rfl⟩
      have hget : (x.eng.tick n.net ch.toNat).bag.getD x.eng.bag.length noMail = (x.eng.look n.net ch.toNat).mail n.net ch.toNat q0 := by
        show (x.eng.bag ++ (n.net.hearers ch.toNat).map fun k => (x.eng.look n.net ch.toNat).mail n.net ch.toNat k).getD x.eng.bag.length noMail = _
        rw [hq0]
        simp [List.getD_eq_getElem?_getD]
      have hqN : q0 < n.net.N := (Net.mem_hearers.1 (by rw [hq0]; exact List.mem_cons_self)).1
      rw [hget, Eng.mail_text Hg.out (HR.out.fit.look Hg.out hcn) hcn hqN, Pkt.bytes_length]
      omega
    obtain ⟨cb, hcb⟩ : ∃ cb, cb = chooseV b (txl.length : Int) := ⟨_, rfl⟩
    obtain ⟨cc, hcc⟩ : ∃ cc, cc = chooseV c 255 := ⟨_, rfl⟩
    have hcbr : 0 ≤ cb ∧ cb < (txl.length : Int) := by rw [hcb]; exact chooseV_in (by omega)
    have hccr : 0 ≤ cc ∧ cc < 255 := by rw [hcc]; exact chooseV_in (by omega)
    have HChB := hide (fun W => choose_any b (txl.length : Int) W (by omega) (by omega) HBr.out.1 HBr.out.2)
    have HChC := hide (fun W => choose_any c 255 W (by omega) (by omega) HCr.out.1 HCr.out.2)
    rw [← hcb] at HChB
    rw [← hcc] at HChC
    have hall := spoilt_all Hg.out HR.out.fit (a := ch) (b := cb) (c := 1 + cc) (f1 := fun _ => 0) (f2 := fun _ => 0) (f3 := fun _ => 0) (by have := Hchr.out; have h3 : n.net.nodes = n.nodes := rfl; omega) (by have h5 : x.eng.step n.net ⟨1, ch, 0, 0, 0, fun _ => 0⟩ = m4.eng := hmg.symm; rw [h5, Hml.out, Hbl.out]; omega) (by have h5 : x.eng.step n.net ⟨1, ch, 0, 0, 0, fun _ => 0⟩ = m4.eng := hmg.symm; rw [h5, Hbl.out, htx]; exact hcbr) (by omega)
    rw [show x.eng.step n.net ⟨1, ch, 0, 0, 0, fun _ => 0⟩ = m4.eng from hmg.symm, Hbl.out] at hall
    obtain ⟨hs5, hs2, hsR, hsT, hsD⟩ := hall
    have Hs5 : Hid (m4.eng.stepErr n.net (bareEv 5 x.bag.bn cb (1 + cc)).ev = 0) := hide hs5
    have HSt2 := hide (fun W (hb : Below w.heap.size w W) (hm : m4.In W.heap.size W) => step_one n m4 (bareEv 5 x.bag.bn cb (1 + cc)) W (H.out.grown hb) hm bareEv_in hme)
    rw [Hs5.out] at HSt2
    simp only [NetM.val, NetM.cells, Mat.val, EngM.val, EngM.cells, EvM.val, EvM.cells, bareEv] at HSt2
    have Hm0 := hide Hm4.out.mem
    have Hq0 := hide Hm4.out.blk
    have Hqc := hide Hm4.out.clear
    have HB4 := hide (HB3.out.trans (HG4.out.mono HB3.out.size))
    have Hb5g := hide (Hb5.out.below HG4.out Hb5.out.lt)
    have Hba : Hid (m4.bag.ba = some ⟨m4.bag.bb, m4.bag.bo, none⟩) := hide (Hm4.out.mem.bag.ba (by omega))
    have hcc1 : cc + 1 ≤ 255 := by omega
    have Hcc0 := hide hccr
    have Htxl := hide htxl
    have hki : (x.bag.bn : Int) < (m4.bag.bn : Int) := by omega
    have Hge := hide hge
    have HLO2 : Hid (W3.heap.size ≤ W4.heap.size) := hide HG4.out.size
    clear HLO HLW
    have HLO : Hid (W4.heap.size ≤ W4.heap.size) := hide (Nat.le_refl _)
    have HLW : Hid (W4.heap.size ≤ W4.heap.size) := hide (Nat.le_refl _)
    have Hme := hide hme
    have Hmf := hide hmF
    have Hs2 := hide hs2
    have HsR := hide hsR
    have HsT := hide hsT
    have HsD := hide hsD
    clear Her HSt hlen hmg hmOk hme hmF htx htxl hcb hcc hcbr hccr hs5 hs2 hsR hsT hsD hge Hm4 HG4 hpos
    go_wp2_with fail
    clear u0 u1
    refine wp_region_mark 21 23 (fun _ W => Below W4.heap.size W4 W) (boxE [.agg #[.int .i64 n.a.size, .slice n.a.B.ga n.a.B.t.len n.a.B.cap, .slice n.a.E.ga n.a.E.t.len n.a.E.cap, .int .i64 n.nodes, .slice n.la n.ln n.lc], .agg #[.slice m4.rs.ga m4.rs.gn m4.rs.gc, .slice m4.bag.ba m4.bag.bn m4.bag.bc], .int .i64 (x.bag.bn : Int), .int .i64 b, .pointer (some ⟨q4, 1, none⟩), .slice (some ⟨m4.bag.bb, m4.bag.bo, none⟩) m4.bag.bn m4.bag.bc, .int .i64 (x.bag.bn : Int), .pointer (some ⟨m4.bag.bb, m4.bag.bo + x.bag.bn * 3, none⟩), .pointer (some ⟨m4.bag.bb, m4.bag.bo + x.bag.bn * 3 + 2, none⟩), .string ⟨txl.toArray⟩, .int .i64 (txl.length : Int), .int .i64 cb, .int .i64 c, .int .i64 cc, .int .i64 (1 + cc), .agg #[.int .i64 5, .int .i64 (x.bag.bn : Int), .int .i64 cb, .int .i64 (1 + cc), .slice none 0 0], undef, undef, undef, .int .i64 0, undef, undef, .int .i64 0] 16 (0) (fun m1 => m1.From W4.heap.size ∧ (m1.err n.net = 0 ∧ m1.eng = m4.eng.step n.net (bareEv 5 x.bag.bn cb (1 + cc)).ev)) (W4.heap.size)) (by kernel_rfl) (by kernel_rfl) (by kernel_rfl) (by decide) (⟨rfl, rfl, rfl, Nat.le_refl _, fun _ _ => rfl⟩) ⟨?_, ?_, ?_, ?_, ?_, ?_, ?_, ?_, ?_, ?_, ?_, ?_, ?_, ?_, ?_, ?_, ?_, ?_, ?_, ?_, ?_, ?_, ?_, trivial⟩ ?_
    rotate_right
    · intro t7 W7 hG hE
      have e22 := boxE_get (hE 22 (by decide)) (by decide) rfl
      obtain ⟨q7, eq, hlq7, _, hqm⟩ := boxE_c4.1 (hE 20 (by decide))
      obtain ⟨m7, hm⟩ := hqm rfl
      have HG7 := hide hG
      have Hm7 := hide hm
      clear hE hG hm hqm
      simp only [fill, Act.put, List.setIfInBounds_toArray, List.set_cons_zero, List.set_cons_succ, e22, eq]
      clear e22 eq
      obtain ⟨hzF, hze, hzg⟩ := Hm7.out.ok
      have hs2' := Hs2.out
      have hz2 : m7.eng.stepErr n.net (bareEv 2 x.bag.bn 0 0).ev = 0 := by rw [hzg]; exact hs2'
      have HB7 := hide (HB4.out.trans (HG7.out.mono HB4.out.size))
      have HSt3 := hide (step_one n m7 (bareEv 2 x.bag.bn 0 0) W7 (H.out.grown HB7.out) Hm7.out.mem bareEv_in hze)
      rw [hz2] at HSt3
      simp only [NetM.val, NetM.cells, Mat.val, EngM.val, EngM.cells, EvM.val, EvM.cells, bareEv] at HSt3
      have Hb57 := hide (Hb5g.out.below HG7.out Hb5g.out.lt)
      have d0 := Hb57.out.cell 0
      have d1 := Hb57.out.cell 1
      have d2 := Hb57.out.cell 2
      have d3 := Hb57.out.cell 3
      have d4 := Hb57.out.cell 4
      have g0 := Hm7.out.blk.cell 0
      have g1 := Hm7.out.blk.cell 1
      simp [NetM.cells, Mat.val] at d0 d1 d2 d3 d4
      simp [EngM.cells] at g0 g1
      have Hm4in := hide (Hm0.out.grown HG7.out)
      have Hq4b := hide (Hq0.out.below HG7.out Hq0.out.lt)
      have Hq4l : Hid (q4 < W4.heap.size) := hide Hq0.out.lt
      have Hzg := hide hzg
      clear hzF hze hzg hs2' hz2
      go_wp2_with fail
      go_at_call 21
      refine HSt3.out.mono ?_
      rintro r W8 ⟨⟨m8, rfl, hm8⟩, hb8⟩
      obtain ⟨hF8, hok8⟩ := hm8.ok
      obtain ⟨he8, hg8⟩ := hok8 trivial
      have HB8 := hide (HB7.out.trans (hb8.mono HB7.out.size))
      obtain ⟨q8, hq8⟩ : ∃ q8, q8 = W8.heap.size := ⟨_, rfl⟩
      obtain ⟨W9, hW9⟩ : ∃ W9, W9 = W8.alloc (.cells #[.slice m8.rs.ga m8.rs.gn m8.rs.gc, .slice none 0 0] 45) := ⟨_, rfl⟩
      have hb9 : Below W8.heap.size W8 W9 := by rw [hW9]; exact (Below.refl _ W8).alloc (Nat.le_refl _) _
      have k8 : Blk W9 q8 #[.slice m8.rs.ga m8.rs.gn m8.rs.gc, .slice none 0 0] 45 := by rw [hW9]; exact Blk.new' hq8
      have k48 := Hq4b.out.below hb8 Hq4b.out.lt
      have k4 : Blk W9 q4 #[.slice m4.rs.ga m4.rs.gn m4.rs.gc, .slice m4.bag.ba m4.bag.bn m4.bag.bc] 45 := k48.below hb9 k48.lt
      have c84 : m8.Clear q4 := hF8.clear (Nat.lt_of_lt_of_le Hq4l.out HG7.out.size)
      have i4 := Hm4in.out.grown hb8
      have hne : q8 ≠ q4 := by have := Hq4l.out; have := HG7.out.size; have := hb8.size; omega
      have j8 := (hm8.mem.grown hb9).set c84 1 (.slice none 0 0)
      have j4 := (i4.grown hb9).set Hqc.out 1 (.slice none 0 0)
      obtain ⟨W10, hW10⟩ : ∃ W10, W10 = W9.setCell ⟨q4, 1, none⟩ (.slice none 0 0) := ⟨_, rfl⟩
      rw [← hW10] at j8 j4
      have hsz : W10.heap.size = W9.heap.size := by rw [hW10]; simp
      have hR8 := EngM.right he8 Hnn.out
      have hR4 := EngM.right Hme.out Hnn.out
      have hsame : (EngM.mk m8.rs nilBag).Same (EngM.mk m4.rs nilBag) := EngM.same_bare hR8 hR4 (by rw [hg8, Hzg.out]; exact HsR.out) (by rw [hg8, Hzg.out]; exact HsT.out) (by rw [hg8, Hzg.out]; exact HsD.out)
      have HSE := hide (sameEngine_yes (EngM.mk m8.rs nilBag) (EngM.mk m4.rs nilBag) W10 ⟨by rw [hsz]; exact j8.rs, nilBag_in _ _⟩ ⟨by rw [hsz]; exact j4.rs, nilBag_in _ _⟩ hsame)
      have r1 : ∀ o, (W8.alloc o).cell? ⟨q4, 1, none⟩ = some (.slice m4.bag.ba m4.bag.bn m4.bag.bc) := fun o => by have := (k48.alloc o).cell 1; simpa [EngM.cells] using this
      have s1 : ∀ o, (W8.alloc o).frozen? ⟨q4, 1, none⟩ = false := fun o => (k48.alloc o).frozen 1
      have v80 := (k8.other hne 1 (.slice none 0 0)).cell 0
      have v81 := (k8.other hne 1 (.slice none 0 0)).cell 1
      have v40 := (k4.set 1 (.slice none 0 0)).cell 0
      have v41 := (k4.set 1 (.slice none 0 0)).cell 1
      have HF := hide ((HB8.out.trans (hb9.mono HB8.out.size)).setCell (p := ⟨q4, 1, none⟩) (by show w.heap.size ≤ q4; have := hlq4; have := HB3.out.size; omega) (.slice none 0 0))
      rw [← hW10] at HF
      simp at v80 v81 v40 v41
      simp only [EngM.val, EngM.cells, nilBag] at HSE
      have Hq8 := hide hq8
      rw [hq8, hW9] at v80 v81
      rw [hW9] at v40 v41 hW10
      rw [hW10] at HSE
      have HW10 := hide hW10
      clear k8 k4 k48 c84 i4 j8 j4 hR8 hR4 hsame hb9 hm8 hF8 hok8 he8 hg8 hb8 HSt3 d0 d1 d2 d3 d4 g0 g1 hsz hW9 hW10 hne hq8
      go_wp2_with fail
      go_at_call 22
      refine HSE.out.mono ?_
      rintro e W11 ⟨rfl, hb11⟩
      rw [← HW10.out] at hb11
      have HF11 := hide (HF.out.trans (hb11.mono HF.out.size))
      clear hb11
      go_wp2
      go_ret
      exact ⟨rfl, HF11.out⟩
    all_goals first | (rw [if_neg (by decide)]; intro bb t W hb hG hp K hK) | (rw [if_pos rfl]; intro t W hG hp K hK)
    all_goals simp only [fill, Act.put, List.setIfInBounds_toArray, List.set_cons_zero, List.set_cons_succ] at hK ⊢
    · have m0 := (Hb5g.out.below hG Hb5g.out.lt).cell 0
      have m1 := (Hb5g.out.below hG Hb5g.out.lt).cell 1
      have m2 := (Hb5g.out.below hG Hb5g.out.lt).cell 2
      have m3 := (Hb5g.out.below hG Hb5g.out.lt).cell 3
      have m4 := (Hb5g.out.below hG Hb5g.out.lt).cell 4
      simp [NetM.cells, Mat.val] at m0 m1 m2 m3 m4
      rw [if_pos (by rfl)]
      go_simp
      exact hK _ _ hG (boxE_put (by decide) rfl) (fun _ _ h => h)
    · have z0 := (Hq0.out.below hG Hq0.out.lt).cell 0
      have z1 := (Hq0.out.below hG Hq0.out.lt).cell 1
      simp [EngM.cells] at z0 z1
      rw [if_pos (by rfl)]
      go_simp
      exact hK _ _ hG (boxE_put (by decide) rfl) (fun _ _ h => h)
    · rw [if_pos (by rfl)]
      go_simp
      exact hK _ _ hG (boxE_put (by decide) rfl) (fun _ _ h => h)
    · rw [if_pos (by rfl)]
      go_simp
      exact hK _ _ hG (boxE_put (by decide) rfl) (fun _ _ h => h)
    · rw [if_pos (by rfl)]
      go_simp
      exact hK _ _ hG (boxE_put (by decide) rfl) (fun _ _ h => h)
    · have e4 := boxE_get (hp 4 (by decide)) (by decide) rfl
      have z0 := (Hq0.out.below hG Hq0.out.lt).cell 0
      have z1 := (Hq0.out.below hG Hq0.out.lt).cell 1
      simp [EngM.cells] at z0 z1
      rw [Hba.out] at z1
      simp only [e4] at hK ⊢
      rw [if_pos (by rfl)]
      go_simp
      exact hK _ _ hG (boxE_put (by decide) rfl) (fun _ _ h => h)
    · rw [if_pos (by rfl)]
      go_simp
      exact hK _ _ hG (boxE_put (by decide) rfl) (fun _ _ h => h)
    · have e5 := boxE_get (hp 5 (by decide)) (by decide) rfl
      have e6 := boxE_get (hp 6 (by decide)) (by decide) rfl
      simp only [e5, e6] at hK ⊢
      rw [if_pos (by rfl)]
      go_simp
      exact hK _ _ hG (boxE_put (by decide) rfl) (fun _ _ h => h)
    · have e7 := boxE_get (hp 7 (by decide)) (by decide) rfl
      simp only [e7] at hK ⊢
      rw [if_pos (by rfl)]
      go_simp
      exact hK _ _ hG (boxE_put (by decide) rfl) (fun _ _ h => h)
    · have e8 := boxE_get (hp 8 (by decide)) (by decide) rfl
      have zz := (Hm0.out.below hG (Nat.le_refl _)).bag.c2 x.bag.bn Hge.out
      rw [← Htxl.out] at zz
      simp only [e8] at hK ⊢
      rw [if_pos (by rfl)]
      go_simp
      exact hK _ _ hG (boxE_put (by decide) rfl) (fun _ _ h => h)
    · have e9 := boxE_get (hp 9 (by decide)) (by decide) rfl
      simp only [e9] at hK ⊢
      rw [if_pos (by rfl)]
      have hsz : (ByteArray.mk txl.toArray).size = txl.length := by simp [ByteArray.size]
      go_simp
      exact hK _ _ hG (boxE_put (by decide) (by simp)) (fun _ _ h => h)
    · have e3 := boxE_get (hp 3 (by decide)) (by decide) rfl
      have e10 := boxE_get (hp 10 (by decide)) (by decide) rfl
      simp only [e3, e10] at hK ⊢
      rw [if_pos (by rfl)]
      go_simp
      go_at_call 18
      refine (HChB.out _).mono ?_
      rintro r W1 ⟨rfl, z, rfl⟩
      go_simp
      exact hK _ _ (below_drewN hG z) (boxE_put (by decide) rfl) (fun _ _ h => boxE_keep (below_drewN (Below.refl _ _) z) h)
    · rw [if_pos (by rfl)]
      go_simp
      exact hK _ _ hG (boxE_put (by decide) rfl) (fun _ _ h => h)
    · have e12 := boxE_get (hp 12 (by decide)) (by decide) rfl
      simp only [e12] at hK ⊢
      rw [if_pos (by rfl)]
      go_simp
      go_at_call 18
      refine (HChC.out _).mono ?_
      rintro r W1 ⟨rfl, z, rfl⟩
      go_simp
      exact hK _ _ (below_drewN hG z) (boxE_put (by decide) rfl) (fun _ _ h => boxE_keep (below_drewN (Below.refl _ _) z) h)
    · have e13 := boxE_get (hp 13 (by decide)) (by decide) rfl
      simp only [e13] at hK ⊢
      rw [if_pos (by rfl)]
      have hc0 := Hcc0.out
      go_simp
      exact hK _ _ hG (boxE_put (by decide) (by rw [wrap_sm (by omega) (by omega)]; rfl)) (fun _ _ h => h)
    · have e2 := boxE_get (hp 2 (by decide)) (by decide) rfl
      have e11 := boxE_get (hp 11 (by decide)) (by decide) rfl
      have e14 := boxE_get (hp 14 (by decide)) (by decide) rfl
      simp only [e2, e11, e14] at hK ⊢
      rw [if_pos (by rfl)]
      go_simp
      exact hK _ _ hG (boxE_put (by decide) rfl) (fun _ _ h => h)
    · have e0 := boxE_get (hp 0 (by decide)) (by decide) rfl
      have e1 := boxE_get (hp 1 (by decide)) (by decide) rfl
      have e15 := boxE_get (hp 15 (by decide)) (by decide) rfl
      have hc1 := (HSt2.out W (HB4.out.trans (hG.mono HB4.out.size)) (Hm0.out.grown hG)).mono (fun r w' hh => (by obtain ⟨⟨m2, e, hm2⟩, hb⟩ := hh; exact ⟨⟨m2, e, ⟨hm2.mem, hm2.apart, hm2.ok.1.mono hG.size, hm2.ok.2 trivial⟩⟩, hb⟩ : (∃ m2 : EngM, r = _ ∧ BoxM (fun m1 => m1.From W4.heap.size ∧ (m1.err n.net = 0 ∧ m1.eng = m4.eng.step n.net (bareEv 5 x.bag.bn cb (1 + cc)).ev)) m2 w') ∧ Below W.heap.size W w'))
      have HC := hide hc1
      clear hc1
      simp only [e0, e1, e15] at hK ⊢
      rw [if_pos (by rfl)]
      go_simp
      go_at_call 21
      refine HC.out.mono ?_
      rintro r W1 ⟨⟨m1, rfl, hm1⟩, hb1⟩
      go_simp
      exact hK _ _ (hG.trans (hb1.mono hG.size)) (boxE_c.2 ⟨⟨_, rfl⟩, fun _ => ⟨m1, rfl, hm1⟩⟩) (fun j _ h => boxE_keep hb1 h)
    · have h1 := boxE_c.1 (hp 16 (by decide))
      rw [if_pos (by rfl)]
      go_simp
      exact hK _ _ hG (boxE_c1.2 h1) (fun _ _ h => h)
    · have hb0 := hb (by kernel_rfl)
      subst hb0
      obtain ⟨_, h2⟩ := boxE_c1.1 (hp 17 (by decide))
      obtain ⟨m, e, hm⟩ := h2 rfl
      simp only [EngM.val, EngM.cells] at e
      simp only [e] at hK ⊢
      rw [if_pos (by rfl)]
      go_simp
      exact hK _ _ hG (boxE_c2.2 fun _ => ⟨m, rfl, hm⟩) (fun _ _ h => h)
    · obtain ⟨⟨u, e⟩, _⟩ := boxE_c1.1 (hp 17 (by decide))
      simp only [e] at hK ⊢
      rw [if_pos (by rfl)]
      go_simp
      exact hK _ _ hG (boxE_put (by decide) rfl) (fun _ _ h => h)
    · have hb0 := hb (by kernel_rfl)
      subst hb0
      rw [if_pos (by rfl)]
      go_simp
      exact hK _ _ (hG.alloc hG.size _) (boxE_c4.2 ⟨W.heap.size, rfl, Nat.le_trans HLO.out hG.size, fun _ => Blk.new W _ _, fun h => by cases h⟩) (fun j _ h => boxE_keep ((Below.refl _ W).alloc (Nat.le_refl _) _) h)
    · obtain ⟨m1, e1, hm1⟩ := boxE_c2.1 (hp 18 (by decide)) rfl
      obtain ⟨q, eq, hlq, hq, _⟩ := boxE_c4.1 (hp 20 (by decide))
      have hqb := hq rfl
      have HN := hide (hm1.stored hqb)
      have HBs := hide ((hG.setCell (p := ⟨q, 0, none⟩) (Nat.le_trans HLW.out hlq) (.slice m1.rs.ga m1.rs.gn m1.rs.gc)).setCell (p := ⟨q, 1, none⟩) (Nat.le_trans HLW.out hlq) (.slice m1.bag.ba m1.bag.bn m1.bag.bc))
      have c0 := hqb.cell 0
      have c1 := hqb.cell 1
      have f0 := hqb.frozen 0
      have f1 := hqb.frozen 1
      simp at c0 c1
      have Hst := hide (boxE_store (vs := [.agg #[.int .i64 n.a.size, .slice n.a.B.ga n.a.B.t.len n.a.B.cap, .slice n.a.E.ga n.a.E.t.len n.a.E.cap, .int .i64 n.nodes, .slice n.la n.ln n.lc], .agg #[.slice m4.rs.ga m4.rs.gn m4.rs.gc, .slice m4.bag.ba m4.bag.bn m4.bag.bc], .int .i64 (x.bag.bn : Int), .int .i64 b, .pointer (some ⟨q4, 1, none⟩), .slice (some ⟨m4.bag.bb, m4.bag.bo, none⟩) m4.bag.bn m4.bag.bc, .int .i64 (x.bag.bn : Int), .pointer (some ⟨m4.bag.bb, m4.bag.bo + x.bag.bn * 3, none⟩), .pointer (some ⟨m4.bag.bb, m4.bag.bo + x.bag.bn * 3 + 2, none⟩), .string ⟨txl.toArray⟩, .int .i64 (txl.length : Int), .int .i64 cb, .int .i64 c, .int .i64 cc, .int .i64 (1 + cc), .agg #[.int .i64 5, .int .i64 (x.bag.bn : Int), .int .i64 cb, .int .i64 (1 + cc), .slice none 0 0], undef, undef, undef, .int .i64 0, undef, undef, .int .i64 0]) (c := 16) (er := 0) (t := t) (W := W) eq hlq HN.out)
      simp only [EngM.val, EngM.cells] at e1
      clear hm1 hqb hq
      simp only [e1, eq] at hK ⊢
      rw [if_pos (by rfl)]
      go_simp
      exact hK undef _ HBs.out boxE_c5 (fun j hj h => Hst.out j hj h)
    · have e19 := boxE_get (hp 19 (by decide)) (by decide) rfl
      simp only [e19] at hK ⊢
      rw [if_pos (by rfl)]
      go_simp
      exact hK _ _ hG (boxE_put (by decide) rfl) (fun _ _ h => h)
  all_goals first | (rw [if_neg (by decide)]; intro bb t W hb hG hp K hK) | (rw [if_pos rfl]; intro t W hG hp K hK)
  all_goals simp only [fill, Act.put, List.setIfInBounds_toArray, List.set_cons_zero, List.set_cons_succ] at hK ⊢
  · have m0 := (Hb5.out.below hG Hb5.out.lt).cell 0
    have m1 := (Hb5.out.below hG Hb5.out.lt).cell 1
    have m2 := (Hb5.out.below hG Hb5.out.lt).cell 2
    have m3 := (Hb5.out.below hG Hb5.out.lt).cell 3
    have m4 := (Hb5.out.below hG Hb5.out.lt).cell 4
    simp [NetM.cells, Mat.val] at m0 m1 m2 m3 m4
    rw [if_pos (by rfl)]
    go_simp
    exact hK _ _ hG (boxE_put (by decide) rfl) (fun _ _ h => h)
  · have z0 := (Hb6.out.below hG Hb6.out.lt).cell 0
    have z1 := (Hb6.out.below hG Hb6.out.lt).cell 1
    simp [EngM.cells] at z0 z1
    rw [if_pos (by rfl)]
    go_simp
    exact hK _ _ hG (boxE_put (by decide) rfl) (fun _ _ h => h)
  · rw [if_pos (by rfl)]
    go_simp
    exact hK _ _ hG (boxE_put (by decide) rfl) (fun _ _ h => h)
  · rw [if_pos (by rfl)]
    go_simp
    exact hK _ _ hG (boxE_put (by decide) rfl) (fun _ _ h => h)
  · have e3 := boxE_get (hp 3 (by decide)) (by decide) rfl
    have m0 := (Hb5.out.below hG Hb5.out.lt).cell 0
    have m1 := (Hb5.out.below hG Hb5.out.lt).cell 1
    have m2 := (Hb5.out.below hG Hb5.out.lt).cell 2
    have m3 := (Hb5.out.below hG Hb5.out.lt).cell 3
    have m4 := (Hb5.out.below hG Hb5.out.lt).cell 4
    simp [NetM.cells, Mat.val] at m0 m1 m2 m3 m4
    simp only [e3] at hK ⊢
    rw [if_pos (by rfl)]
    go_simp
    exact hK _ _ hG (boxE_put (by decide) rfl) (fun _ _ h => h)
  · have e2 := boxE_get (hp 2 (by decide)) (by decide) rfl
    have e4 := boxE_get (hp 4 (by decide)) (by decide) rfl
    simp only [e2, e4] at hK ⊢
    rw [if_pos (by rfl)]
    go_simp
    go_at_call 18
    refine (HChA.out W).mono ?_
    rintro r W1 ⟨rfl, z, rfl⟩
    go_simp
    exact hK _ _ (below_drewN hG z) (boxE_put (by decide) rfl) (fun _ _ h => boxE_keep (below_drewN (Below.refl _ _) z) h)
  · have e5 := boxE_get (hp 5 (by decide)) (by decide) rfl
    simp only [e5] at hK ⊢
    rw [if_pos (by rfl)]
    go_simp
    exact hK _ _ hG (boxE_put (by decide) rfl) (fun _ _ h => h)
  · have e0 := boxE_get (hp 0 (by decide)) (by decide) rfl
    have e1 := boxE_get (hp 1 (by decide)) (by decide) rfl
    have e6 := boxE_get (hp 6 (by decide)) (by decide) rfl
    have hc1 := (HSt.out W (HB3.out.trans (hG.mono HB3.out.size))).mono (fun r w' hh => (by obtain ⟨⟨m, e, hm⟩, hb⟩ := hh; exact ⟨⟨m, e, ⟨hm.mem, hm.apart, hm.ok.1.mono hG.size, hm.ok.2⟩⟩, hb⟩ : (∃ m : EngM, r = _ ∧ BoxM (fun m => m.From W3.heap.size ∧ (er = 0 → m.err n.net = 0 ∧ m.eng = x.eng.step n.net (bareEv 1 ch 0 0).ev)) m w') ∧ Below W.heap.size W w'))
    have HC := hide hc1
    clear hc1
    simp only [e0, e1, e6] at hK ⊢
    rw [if_pos (by rfl)]
    go_simp
    go_at_call 21
    refine HC.out.mono ?_
    rintro r W1 ⟨⟨m1, rfl, hm1⟩, hb1⟩
    go_simp
    exact hK _ _ (hG.trans (hb1.mono hG.size)) (boxE_c.2 ⟨⟨_, rfl⟩, fun _ => ⟨m1, rfl, hm1⟩⟩) (fun j _ h => boxE_keep hb1 h)
  · have h1 := boxE_c.1 (hp 7 (by decide))
    rw [if_pos (by rfl)]
    go_simp
    exact hK _ _ hG (boxE_c1.2 h1) (fun _ _ h => h)
  · have hb0 := hb (by kernel_rfl)
    subst hb0
    obtain ⟨_, h2⟩ := boxE_c1.1 (hp 8 (by decide))
    obtain ⟨m, e, hm⟩ := h2 rfl
    simp only [EngM.val, EngM.cells] at e
    simp only [e] at hK ⊢
    rw [if_pos (by rfl)]
    go_simp
    exact hK _ _ hG (boxE_c2.2 fun _ => ⟨m, rfl, hm⟩) (fun _ _ h => h)
  · obtain ⟨⟨u, e⟩, _⟩ := boxE_c1.1 (hp 8 (by decide))
    simp only [e] at hK ⊢
    rw [if_pos (by rfl)]
    go_simp
    exact hK _ _ hG (boxE_put (by decide) rfl) (fun _ _ h => h)
  · have hb0 := hb (by kernel_rfl)
    subst hb0
    rw [if_pos (by rfl)]
    go_simp
    exact hK _ _ (hG.alloc hG.size _) (boxE_c4.2 ⟨W.heap.size, rfl, Nat.le_trans HLO.out hG.size, fun _ => Blk.new W _ _, fun h => by cases h⟩) (fun j _ h => boxE_keep ((Below.refl _ W).alloc (Nat.le_refl _) _) h)
  · obtain ⟨m1, e1, hm1⟩ := boxE_c2.1 (hp 9 (by decide)) rfl
    obtain ⟨q, eq, hlq, hq, _⟩ := boxE_c4.1 (hp 11 (by decide))
    have hqb := hq rfl
    have HN := hide (hm1.stored hqb)
    have HBs := hide ((hG.setCell (p := ⟨q, 0, none⟩) (Nat.le_trans HLW.out hlq) (.slice m1.rs.ga m1.rs.gn m1.rs.gc)).setCell (p := ⟨q, 1, none⟩) (Nat.le_trans HLW.out hlq) (.slice m1.bag.ba m1.bag.bn m1.bag.bc))
    have c0 := hqb.cell 0
    have c1 := hqb.cell 1
    have f0 := hqb.frozen 0
    have f1 := hqb.frozen 1
    simp at c0 c1
    have Hst := hide (boxE_store (vs := [.agg #[.int .i64 n.a.size, .slice n.a.B.ga n.a.B.t.len n.a.B.cap, .slice n.a.E.ga n.a.E.t.len n.a.E.cap, .int .i64 n.nodes, .slice n.la n.ln n.lc], .agg #[.slice x.rs.ga x.rs.gn x.rs.gc, .slice x.bag.ba x.bag.bn x.bag.bc], .int .i64 loc, .pointer (some ⟨w.heap.size, 3, none⟩), .int .i64 n.nodes, .int .i64 ch, .agg #[.int .i64 1, .int .i64 ch, .int .i64 0, .int .i64 0, .slice none 0 0], undef, undef, undef, .int .i64 er, undef, undef, .int .i64 er]) (c := 7) (er := er) (t := t) (W := W) eq hlq HN.out)
    simp only [EngM.val, EngM.cells] at e1
    clear hm1 hqb hq
    simp only [e1, eq] at hK ⊢
    rw [if_pos (by rfl)]
    go_simp
    exact hK undef _ HBs.out boxE_c5 (fun j hj h => Hst.out j hj h)
  · have e10 := boxE_get (hp 10 (by decide)) (by decide) rfl
    simp only [e10] at hK ⊢
    rw [if_pos (by rfl)]
    go_simp
    exact hK _ _ hG (boxE_put (by decide) rfl) (fun _ _ h => h)

end Go.Proofs.Ytjhkadffaephmab
