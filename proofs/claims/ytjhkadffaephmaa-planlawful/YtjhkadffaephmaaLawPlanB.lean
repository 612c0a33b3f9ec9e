/-
  signpostlaw.PlanLawful: the walk.
-/
import Derived.Test.YtjhkadffaephmaaLawful
import Derived.Test.YtjhkadffaephmaaPlanBegun
import Derived.Test.YtjhkadffaephmaaBegun
namespace Go.Proofs.Ytjhkadffaephmaa
set_option maxRecDepth 100000
open Go.RowKit

set_option maxHeartbeats 4000000 in
theorem planLawful_any (p : PlanM) (w : World) (hin : p.In w.heap.size w) :
    Calls Try.prog 7 #[p.head.val] w fun e w' => e = .returned (.bool true) ∧ Below w.heap.size w w' := by
  induction p using PlanM.ind with
  | no => exact False.elim hin
  | mk h sub _ =>
  have b0 := Blk.new w h.cells 42
  have hB0 : Below w.heap.size w (w.alloc (.cells h.cells 42)) := (Below.refl _ w).alloc (Nat.le_refl _) _
  have HIN := hide hin
  obtain ⟨hh, hs⟩ := hin
  simp only [head_mk, PHead.val, PHead.cells] at *
  go_enter Try.func7, Try.ntmps7
  go_wp2_with fail
  go_at_call 28
  refine (planBegun_any _).mono ?_
  rintro e w1 ⟨rfl, hb1⟩
  have b1 := b0.below hb1 b0.lt
  have hB1 := hB0.trans (hb1.mono hB0.size)
  clear hb1 b0 hB0
  go_wp2_with fail
  go_at_call 21
  refine (begun_any _).mono ?_
  rintro e w2 ⟨rfl, hb2⟩
  have b2 := b1.below hb2 b1.lt
  have hB2 := hB1.trans (hb2.mono hB1.size)
  clear hb2 b1 hB1
  have x0 := b2.cell 0
  have x1 := b2.cell 1
  have x2 := b2.cell 2
  have x3 := b2.cell 3
  simp at x0 x1 x2 x3
  have HP := hide (planBuild_any (.mk h sub) w2 (HIN.out.grown hB2))
  simp only [head_mk, PHead.val, PHead.cells] at HP
  go_wp2_with fail
  go_at_call 26
  refine HP.out.mono ?_
  rintro e w3 ⟨⟨m, rfl, hal, hmi⟩, hb3⟩
  have b3 := b2.below hb3 b2.lt
  have hB3 := hB2.trans (hb3.mono hB2.size)
  clear hb3 b2 hB2 HP x0 x1 x2 x3
  have hb4 : Below w3.heap.size w3 (w3.alloc (.cells #[.int .i64 m.size, m.B.val, m.E.val] 24)) := (Below.refl _ w3).alloc (Nat.le_refl _) _
  have bM := Blk.new w3 #[.int .i64 m.size, m.B.val, m.E.val] 24
  have b4 := b3.below hb4 b3.lt
  have hmi4 := (hmi.below hb4 (Nat.le_refl _)).mono hb4.size
  have hB4 := hB3.trans (hb4.mono hB3.size)
  clear b3 hmi hB3
  have y0 := bM.cell 0
  have y1 := bM.cell 1
  have y2 := bM.cell 2
  simp [Mat.val] at y0 y1 y2
  have HAL := hide hal
  clear hal
  simp only [AlgM.val, Mat.val] at *
  by_cases hc : (PlanM.mk h sub).chk = 0
  · have HC := hide hc
    have hck0 : ((PlanM.mk h sub).chk != 0) = false := by rw [hc]; rfl
    obtain ⟨t1, t2⟩ := res_laws hc
    have HL := hide (laws_any m _ hmi4)
    rw [HAL.out, t1, t2] at HL
    have HSt := hide (fun (W : World) hI => strict_any m W hI)
    rw [HAL.out, t2] at HSt
    simp only [AlgM.val, Mat.val, Brk.val, Brk.none] at HL HSt
    go_wp2_with fail
    go_at_call 15
    refine HL.out.mono ?_
    rintro e w5 ⟨rfl, hb5⟩
    have b5 := b4.below hb5 b4.lt
    have bM5 := bM.below hb5 bM.lt
    have hmi5 := (hmi4.below hb5 (Nat.le_refl _)).mono hb5.size
    have hB5 := hB4.trans (hb5.mono hB4.size)
    clear hb5 b4 bM hmi4 hB4 HL hb4 y0 y1 y2
    have hb6 : Below w5.heap.size w5 (w5.alloc (.cells #[.int .i64 0, .int .i64 0, .int .i64 0, .int .i64 0, .int .i64 0] 26)) := (Below.refl _ w5).alloc (Nat.le_refl _) _
    have bL := Blk.new w5 #[.int .i64 0, .int .i64 0, .int .i64 0, .int .i64 0, .int .i64 0] 26
    have b6 := b5.below hb6 b5.lt
    have bM6 := bM5.below hb6 bM5.lt
    have hmi6 := (hmi5.below hb6 (Nat.le_refl _)).mono hb6.size
    have hB6 := hB5.trans (hb6.mono hB5.size)
    clear b5 bM5 hmi5 hB5 hb6
    have y0 := bM6.cell 0
    have y1 := bM6.cell 1
    have y2 := bM6.cell 2
    simp at y0 y1 y2
    go_wp2_with fail
    go_at_call 16
    refine (HSt.out _ hmi6).mono ?_
    rintro e w7 ⟨rfl, hb7⟩
    have b7 := b6.below hb7 b6.lt
    have bL7 := bL.below hb7 bL.lt
    have hB7 := hB6.trans (hb7.mono hB6.size)
    clear hb7 b6 bM6 hmi6 hB6 y0 y1 y2 bL HSt
    generalize hT : (PlanM.mk h sub).res.tell [8] = T at *
    have HT := hide hT
    clear hT
    have hb8 : Below w7.heap.size w7 (w7.alloc (.cells #[.int .i64 T.law, .int .i64 T.a, .int .i64 T.b, .int .i64 T.c, .int .i64 T.e] 26)) := (Below.refl _ w7).alloc (Nat.le_refl _) _
    have bS := Blk.new w7 #[.int .i64 T.law, .int .i64 T.a, .int .i64 T.b, .int .i64 T.c, .int .i64 T.e] 26
    have b8 := b7.below hb8 b7.lt
    have bL8 := bL7.below hb8 bL7.lt
    have hB8 := hB7.trans (hb8.mono hB7.size)
    clear b7 bL7 hB7
    have l0 := bL8.cell 0
    have x0 := b8.cell 0
    have x3 := b8.cell 3
    simp at l0 x0 x3
    go_wp2_with fail
    have Hst : Hid (∀ (sb : Bool), sb = (h.kind == 1) → sb = true → T = Brk.none) := hide (fun sb e1 e2 => by
      rw [← HT.out]
      refine res_hops HC.out ?_
      rw [e2] at e1
      simpa using e1.symm)
    have hpl := hh.plen
    clear hc hck0 t1 t2 HAL
    go_loopw [8, 9] (fun s i wr => ∃ (k : Nat) (sb : Bool), k ≤ h.pn ∧ i = .int .i64 k ∧ s = .bool sb ∧ Hid (sb = true → T = Brk.none) ∧ Hid (Below w.heap.size w wr) ∧ Hid (Blk wr w.heap.size #[.int .i64 h.kind, .int .i64 h.n, .slice h.eg h.en h.ec, .slice h.pg h.pn h.pc] 42) ∧ Hid (Blk wr w7.heap.size #[.int .i64 T.law, .int .i64 T.a, .int .i64 T.b, .int .i64 T.c, .int .i64 T.e] 26)) (fun _ i _ => h.pn - (intOf i).toNat)
    case atStart => exact ⟨0, h.kind == 1, Nat.zero_le _, rfl, rfl, hide (Hst.out _ rfl), hide hB8, hide b8, hide bS⟩
    case round =>
      obtain ⟨k, sb, hk, rfl, rfl, Hsb, HB, Hb2, HbS⟩ := hrel
      clear l0 x0 x3 b8 bL8 hB8 bS hb8
      have x0 := Hb2.out.cell 0
      have x3 := Hb2.out.cell 3
      simp at x0 x3
      by_cases hlt : k < h.pn
      · have hki : (k : Int) < (h.pn : Int) := by omega
        by_cases k3 : h.kind = 3
        · have f3 : (h.kind == 3) = true := by simp [k3]
          have HK3 := hide k3
          clear k3
          obtain ⟨hat, hsub⟩ := hs k hlt
          have hpa := hh.pa (by omega)
          have hat' := hat.below HB.out (hh.pl (by omega))
          have q0 := hat'.c0
          have q1 := hat'.c1
          have q2 := hat'.c2
          have q3 := hat'.c3
          have HPk := hide (planBuild_any (sub k) wr (hsub.grown HB.out))
          simp only [PHead.val, PHead.cells] at HPk
          clear hat hsub
          go_wp2_with fail
          go_at_call 26
          refine HPk.out.mono ?_
          rintro e wa ⟨⟨mk, rfl, halk, hmik⟩, hba⟩
          have b2a := Hb2.out.below hba Hb2.out.lt
          have bSa := HbS.out.below hba HbS.out.lt
          have hBa := HB.out.trans (hba.mono HB.out.size)
          have hbb : Below wa.heap.size wa (wa.alloc (.cells #[.int .i64 mk.size, mk.B.val, mk.E.val] 24)) := (Below.refl _ wa).alloc (Nat.le_refl _) _
          have bMk := Blk.new wa #[.int .i64 mk.size, mk.B.val, mk.E.val] 24
          have b2b := b2a.below hbb b2a.lt
          have bSb := bSa.below hbb bSa.lt
          have hmib := (hmik.below hbb (Nat.le_refl _)).mono hbb.size
          have hBb := hBa.trans (hbb.mono hBa.size)
          have HSk := hide (strict_any mk _ hmib)
          rw [halk] at HSk
          clear HPk hba b2a bSa hBa hmik hbb hmib halk
          have y0 := bMk.cell 0
          have y1 := bMk.cell 1
          have y2 := bMk.cell 2
          simp [Mat.val] at y0 y1 y2
          simp only [AlgM.val, Mat.val, Brk.val] at *
          have HCk := hide (show (sub k).chk = 0 → (sub k).res.check = 0 from fun h0 => (res_laws h0).2)
          have HRk := hide (show (sub k).chk = 0 → ((sub k).res.tell [8]).law = 0 → T = Brk.none from fun h0 h1 => by
            rw [← HT.out]
            exact res_pair HC.out HK3.out hlt h0 h1)
          generalize (sub k).chk = ck at *
          generalize (sub k).res.check = fk at *
          generalize (sub k).res.tell [8] = dk at *
          go_wp2_with fail
          go_at_call 16
          refine HSk.out.mono ?_
          rintro e wc ⟨rfl, hbc⟩
          have b2c := b2b.below hbc b2b.lt
          have bSc := bSb.below hbc bSb.lt
          have hBc := hBb.trans (hbc.mono hBb.size)
          have hbd : Below wc.heap.size wc (wc.alloc (.cells #[.int .i64 dk.law, .int .i64 dk.a, .int .i64 dk.b, .int .i64 dk.c, .int .i64 dk.e] 26)) := (Below.refl _ wc).alloc (Nat.le_refl _) _
          have hb2A := hide (b2c.below hbd b2c.lt)
          have hbSA := hide (bSc.below hbd bSc.lt)
          have hBB := hide (hBc.trans (hbd.mono hBc.size))
          clear HSk hbc b2b bSb hBb b2c bSc hBc hbd bMk
          cases sb with
          | true =>
            have HN := Hsb
            clear hat' q0 q1 q2 q3 x0 x3 y0 y1 y2
            go_wp2
            go_roundw
            case rel =>
              first
              | exact ⟨k + 1, true, by omega, by go_num, rfl, hide (fun _ => HN.out (by trivial)), hBB, hb2A, hbSA⟩
              | ((try rw [← hpa]); (repeat apply Exists.intro); refine ⟨?_, rfl⟩; exact ⟨k + 1, true, by omega, by go_num, rfl, hide (fun _ => HN.out (by trivial)), hBB, hb2A, hbSA⟩)
            case measure => simp [intOf]; omega
          | false =>
            by_cases c0 : ck = 0
            · subst c0
              have hf0 := HCk.out rfl
              subst hf0
              by_cases d0 : dk.law = 0
              · have HN := hide (show true = true → T = Brk.none from fun _ => HRk.out rfl d0)
                have fd : (dk.law == 0) = true := by simp [d0]
                clear d0
                clear hat' q0 q1 q2 q3 x0 x3 y0 y1 y2
                go_wp2
                go_roundw
                case rel =>
                  first
                  | exact ⟨k + 1, true, by omega, by go_num, rfl, hide (fun _ => HN.out (by trivial)), hBB, hb2A, hbSA⟩
                  | ((try rw [← hpa]); (repeat apply Exists.intro); refine ⟨?_, rfl⟩; exact ⟨k + 1, true, by omega, by go_num, rfl, hide (fun _ => HN.out (by trivial)), hBB, hb2A, hbSA⟩)
                case measure => simp [intOf]; omega
              · have HN := hide (show false = true → T = Brk.none from fun e => by cases e)
                have fd : (dk.law == 0) = false := by simp [d0]
                clear d0
                clear hat' q0 q1 q2 q3 x0 x3 y0 y1 y2
                go_wp2
                go_roundw
                case rel =>
                  first
                  | exact ⟨k + 1, false, by omega, by go_num, rfl, HN, hBB, hb2A, hbSA⟩
                  | ((try rw [← hpa]); (repeat apply Exists.intro); refine ⟨?_, rfl⟩; exact ⟨k + 1, false, by omega, by go_num, rfl, HN, hBB, hb2A, hbSA⟩)
                case measure => simp [intOf]; omega
            · have HN := hide (show false = true → T = Brk.none from fun e => by cases e)
              have fc : (ck == 0) = false := by simp [c0]
              clear c0
              clear hat' q0 q1 q2 q3 x0 x3 y0 y1 y2
              go_wp2
              go_roundw
              case rel =>
                first
                | exact ⟨k + 1, false, by omega, by go_num, rfl, HN, hBB, hb2A, hbSA⟩
                | ((try rw [← hpa]); (repeat apply Exists.intro); refine ⟨?_, rfl⟩; exact ⟨k + 1, false, by omega, by go_num, rfl, HN, hBB, hb2A, hbSA⟩)
              case measure => simp [intOf]; omega
        · have f3 : (h.kind == 3) = false := by simp [k3]
          have z0 := HbS.out.cell 0
          simp at z0
          cases sb with
          | true =>
            have ht := Hsb.out rfl
            have hl : T.law = 0 := by rw [ht]; rfl
            rw [hl] at z0
            go_wp2
            go_ret
            exact ⟨rfl, HB.out⟩
          | false =>
            go_wp2
            go_ret
            exact ⟨rfl, HB.out⟩
      · have hki : (h.pn : Int) ≤ (k : Int) := by omega
        have z0 := HbS.out.cell 0
        simp at z0
        cases sb with
        | true =>
          have ht := Hsb.out rfl
          have hl : T.law = 0 := by rw [ht]; rfl
          rw [hl] at z0
          go_wp2
          go_ret
          exact ⟨rfl, HB.out⟩
        | false =>
          go_wp2
          go_ret
          exact ⟨rfl, HB.out⟩
  · have hck0 : ((PlanM.mk h sub).chk != 0) = true := by simp [hc]
    have hz : m.size = 0 := by
      have h0 : (PlanM.mk h sub).res = nilAlg.alg := by unfold PlanM.res; rw [if_neg hc]
      have h1 : m.alg.size = (nilAlg.alg).size := by rw [HAL.out, h0]
      exact h1
    go_wp2
    go_ret
    exact ⟨rfl, by rw [hz] at hB4; exact hB4⟩

end Go.Proofs.Ytjhkadffaephmaa
