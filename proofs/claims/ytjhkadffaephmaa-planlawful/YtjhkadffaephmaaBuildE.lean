/-
  plan.build.
-/
import Derived.Test.YtjhkadffaephmaaBuildD
import Derived.Test.YtjhkadffaephmaaPlanE
namespace Go.Proofs.Ytjhkadffaephmaa
set_option maxRecDepth 100000
open Go.RowKit

set_option maxHeartbeats 4000000 in
theorem build_any (p : PlanM) : ∀ (w : World), p.In w.heap.size w → p.err = 0 → p.wide = false →
    Calls Try.prog 65 #[p.head.val] w fun e w' => Made p.built w.heap.size e w' ∧ Below w.heap.size w w' := by
  induction p using PlanM.ind with
  | no => exact fun _ h => False.elim h
  | mk h sub ih =>
    intro w hin herr hwide
    have IH := hide ih
    clear ih
    obtain ⟨hh, hs⟩ := hin
    obtain ⟨hen, hsw⟩ := wide_sub hwide
    have hR := right_of herr
    clear herr hwide
    simp only [head_mk, PHead.val, PHead.cells] at *
    have b0 : Blk ((w.alloc (.cells #[.int .i64 h.kind, .int .i64 h.n, .slice h.eg h.en h.ec, .slice h.pg h.pn h.pc] 42)).alloc (.cells #[.int .i64 0, .slice none 0 0, .slice none 0 0] 24)) w.heap.size #[.int .i64 h.kind, .int .i64 h.n, .slice h.eg h.en h.ec, .slice h.pg h.pn h.pc] 42 := (Blk.new w _ _).alloc _
    have b1 : Blk ((w.alloc (.cells #[.int .i64 h.kind, .int .i64 h.n, .slice h.eg h.en h.ec, .slice h.pg h.pn h.pc] 42)).alloc (.cells #[.int .i64 0, .slice none 0 0, .slice none 0 0] 24)) (w.heap.size + 1) #[.int .i64 0, .slice none 0 0, .slice none 0 0] 24 := Blk.new' (by simp)
    have hb0 : Below w.heap.size w ((w.alloc (.cells #[.int .i64 h.kind, .int .i64 h.n, .slice h.eg h.en h.ec, .slice h.pg h.pn h.pc] 42)).alloc (.cells #[.int .i64 0, .slice none 0 0, .slice none 0 0] 24)) := ((Below.refl _ w).alloc (Nat.le_refl _) _).alloc (by simp) _
    have hsz : (((w.alloc (.cells #[.int .i64 h.kind, .int .i64 h.n, .slice h.eg h.en h.ec, .slice h.pg h.pn h.pc] 42)).alloc (.cells #[.int .i64 0, .slice none 0 0, .slice none 0 0] 24)) : World).heap.size = w.heap.size + 2 := by simp
    have hend : ∀ (x : NAlg) (m : AlgM) (w1 : World), m.alg = x.alg → m.In w1.heap.size w1 → m.FromS (w.heap.size + 2) w1 → Below (w.heap.size + 2) ((w.alloc (.cells #[.int .i64 h.kind, .int .i64 h.n, .slice h.eg h.en h.ec, .slice h.pg h.pn h.pc] 42)).alloc (.cells #[.int .i64 0, .slice none 0 0, .slice none 0 0] 24)) w1 →
        Blk w1 (w.heap.size + 1) #[.int .i64 0, .slice none 0 0, .slice none 0 0] 24 ∧ Blk (set3 w1 (w.heap.size + 1) (.int .i64 m.size) m.B.val m.E.val) (w.heap.size + 1) #[.int .i64 m.size, m.B.val, m.E.val] 24 ∧
        Made x w.heap.size (.returned (.agg #[.int .i64 m.size, m.B.val, m.E.val])) (set3 w1 (w.heap.size + 1) (.int .i64 m.size) m.B.val m.E.val) ∧ Below w.heap.size w (set3 w1 (w.heap.size + 1) (.int .i64 m.size) m.B.val m.E.val) := fun x m w1 hal hmi hfr hb => by
      have bR := b1.below hb (by omega)
      have hbb := below3 (hb0.trans (hb.mono (by omega))) (show w.heap.size ≤ w.heap.size + 1 by omega) (.int .i64 m.size) m.B.val m.E.val
      refine ⟨bR, bR.set3 _ _ _, ⟨m, rfl, hal, ⟨?_, ?_⟩, ⟨hfr.B.mono (by omega), hfr.E.mono (by omega), fun r hr h0 => (by unfold Ytjhkadffaephmaa.set3; exact (((hfr.sB r hr h0).set _ _).set _ _).set _ _), fun r hr h0 => (by unfold Ytjhkadffaephmaa.set3; exact (((hfr.sE r hr h0).set _ _).set _ _).set _ _)⟩⟩, hbb⟩
      · have hs3 : (set3 w1 (w.heap.size + 1) (.int .i64 m.size) m.B.val m.E.val).heap.size = w1.heap.size := by unfold Ytjhkadffaephmaa.set3; simp
        rw [hs3]
        exact ((hmi.B.other hfr.B (by omega) _).other hfr.B (by omega) _).other hfr.B (by omega) _
      · have hs3 : (set3 w1 (w.heap.size + 1) (.int .i64 m.size) m.B.val m.E.val).heap.size = w1.heap.size := by unfold Ytjhkadffaephmaa.set3; simp
        rw [hs3]
        exact ((hmi.E.other hfr.E (by omega) _).other hfr.E (by omega) _).other hfr.E (by omega) _
    simp only [Mat.val] at hend
    have c0 := b0.cell 0
    have c1 := b0.cell 1
    have c2 := b0.cell 2
    have c3 := b0.cell 3
    simp at c0 c1 c2 c3
    have hhW := (hh.below hb0 (Nat.le_refl _)).mono hb0.size
    simp only [PlanM.built]
    rcases hR with ⟨k, pn, n1, n2, ev⟩ | hR
    · skip
      have k3 : ¬ h.kind = 3 := by omega
      have k4 : ¬ h.kind = 4 := by omega
      simp only [if_neg k3, if_neg k4]
      obtain ⟨N, hN⟩ : ∃ N : Nat, h.n = (N : Int) := ⟨h.n.toNat, by omega⟩
      have hNt : h.n.toNat = N := by omega
      by_cases k2 : h.kind = 2
      · simp only [if_pos k2, hNt]
        have HC := hide (buildWide_any h N _ hhW (by omega) (by omega) hen (fun i hi => by have := ev i hi; omega))
        have f1 : (h.kind == 1) = false := by simp [k2]
        have f2 : (h.kind == 2) = true := by simp [k2]
        have HEnd := hide (hend (wideN N h.en h.evN))
        simp only [hN] at HC HEnd hsz b0 b1 hb0 c0 c1 c2 c3 ⊢
        clear k k2 k3 k4 ev hend hNt hN pn
        go_enter Try.func65, Try.ntmps65
        go_wp2_with fail
        go_at_call 106
        refine HC.out.mono ?_
        rintro e w1 ⟨⟨m, rfl, hal, hmi, hfr⟩, hb1⟩
        rw [hsz] at hfr hb1
        obtain ⟨bR, bR', hM, hB⟩ := HEnd.out m w1 hal hmi hfr hb1
        have d0 := bR.cell 0
        have d1 := bR.cell 1
        have d2 := bR.cell 2
        have df := bR.frozen
        have e0 := bR'.cell 0
        have e1 := bR'.cell 1
        have e2 := bR'.cell 2
        unfold Ytjhkadffaephmaa.set3 at e0 e1 e2
        simp at d0 d1 d2 e0 e1 e2
        have HM := hide hM
        have HB := hide hB
        clear hM hB hal hmi hfr hb1
        simp only [AlgM.val, Mat.val]
        go_wp2
        exact bodyPost_ret (v := .agg #[.int .i64 m.size, .slice m.B.ga m.B.t.len m.B.cap, .slice m.E.ga m.E.t.len m.E.cap]) (by simp [results, Try.results65, go_sem, e0, e1, e2]) rfl ⟨HM.out, HB.out⟩
      · simp only [if_neg k2, hNt]
        have HC := hide (buildHops_any h N _ hhW (by omega) (by omega) hen (fun i hi => by have := ev i hi; omega))
        have f1 : (h.kind == 1) = true := by simp; omega
        have HEnd := hide (hend (hopsN N h.en h.evN))
        simp only [hN] at HC HEnd hsz b0 b1 hb0 c0 c1 c2 c3 ⊢
        clear k k2 k3 k4 ev hend hNt hN pn
        go_enter Try.func65, Try.ntmps65
        go_wp2_with fail
        go_at_call 105
        refine HC.out.mono ?_
        rintro e w1 ⟨⟨m, rfl, hal, hmi, hfr⟩, hb1⟩
        rw [hsz] at hfr hb1
        obtain ⟨bR, bR', hM, hB⟩ := HEnd.out m w1 hal hmi hfr hb1
        have d0 := bR.cell 0
        have d1 := bR.cell 1
        have d2 := bR.cell 2
        have df := bR.frozen
        have e0 := bR'.cell 0
        have e1 := bR'.cell 1
        have e2 := bR'.cell 2
        unfold Ytjhkadffaephmaa.set3 at e0 e1 e2
        simp at d0 d1 d2 e0 e1 e2
        have HM := hide hM
        have HB := hide hB
        clear hM hB hal hmi hfr hb1
        simp only [AlgM.val, Mat.val]
        go_wp2
        exact bodyPost_ret (v := .agg #[.int .i64 m.size, .slice m.B.ga m.B.t.len m.B.cap, .slice m.E.ga m.E.t.len m.E.cap]) (by simp [results, Try.results65, go_sem, e0, e1, e2]) rfl ⟨HM.out, HB.out⟩
    rcases hR with ⟨k, pn, n0, en, e0', e1', g, s⟩ | hR
    · skip
      simp only [if_pos k]
      obtain ⟨o0, z0, g0⟩ := built_ok e0' (hsw 0 (by omega))
      obtain ⟨o1, z1, g1⟩ := built_ok e1' (hsw 1 (by omega))
      have f1 : (h.kind == 1) = false := by simp [k]
      have f2 : (h.kind == 2) = false := by simp [k]
      have f3 : (h.kind == 3) = true := by simp [k]
      have HEnd := hide (hend (pairN (sub 0).built (sub 1).built))
      obtain ⟨at0, in0⟩ := hs 0 (by omega)
      obtain ⟨at1, in1⟩ := hs 1 (by omega)
      have hpa := hh.pa (by omega)
      have hplt := hh.pl (by omega)
      have hpn1 : (1 : Int) < (h.pn : Int) := by omega
      have hpn0 : (0 : Int) < (h.pn : Int) := by omega
      have hpn0' : 0 < h.pn := by omega
      have sw0 := hsw 0 (by omega)
      have sw1 := hsw 1 (by omega)
      have HP : Hid (∀ m0 m1 (w2 : World), LiesA m0 (sub 0).built → LiesA m1 (sub 1).built → m0.In w2.heap.size w2 → m1.In w2.heap.size w2 → Calls Try.prog 107 #[m0.val, m1.val] w2 fun e w' => Made (pairN (sub 0).built (sub 1).built) w2.heap.size e w' ∧ Below w2.heap.size w2 w') :=
        hide (fun m0 m1 w2 l0 l1 i0 i1 => buildPair_any m0 m1 _ _ w2 l0 l1 i0 i1 o0 o1 (by rw [g0, g1]; exact g) (by rw [z0, z1]; exact s))
      have H0 := hide (fun (w' : World) (hi : (sub 0).In w'.heap.size w') => IH.out 0 w' hi e0' sw0)
      have H1 := hide (fun (w' : World) (hi : (sub 1).In w'.heap.size w') => IH.out 1 w' hi e1' sw1)
      simp only [hpa] at HEnd hsz b0 b1 hb0 c0 c1 c2 c3 ⊢
      clear k pn n0 en e0' e1' g s o0 o1 z0 z1 g0 g1 hend hsw hs IH sw0 sw1 hpa hhW
      go_enter Try.func65, Try.ntmps65
      go_wp2_with fail
      generalize ((w.alloc (.cells #[.int .i64 h.kind, .int .i64 h.n, .slice h.eg h.en h.ec, .slice (some ⟨h.pb, h.po, none⟩) h.pn h.pc] 42)).alloc (.cells #[.int .i64 0, .slice none 0 0, .slice none 0 0] 24)) = W at *
      have HK : Hid (∀ w', Below (w.heap.size + 1) W w' → w'.cell? ⟨w.heap.size, 3, none⟩ = some (.slice (some ⟨h.pb, h.po, none⟩) h.pn h.pc) ∧ w'.cell? ⟨h.pb, h.po, none⟩ = some (.int .i64 (sub 0).head.kind) ∧ w'.cell? ⟨h.pb, h.po + 1, none⟩ = some (.int .i64 (sub 0).head.n) ∧ w'.cell? ⟨h.pb, h.po + 2, none⟩ = some (.slice (sub 0).head.eg (sub 0).head.en (sub 0).head.ec) ∧ w'.cell? ⟨h.pb, h.po + 3, none⟩ = some (.slice (sub 0).head.pg (sub 0).head.pn (sub 0).head.pc) ∧ w'.cell? ⟨h.pb, h.po + 4, none⟩ = some (.int .i64 (sub 1).head.kind) ∧ w'.cell? ⟨h.pb, h.po + 4 + 1, none⟩ = some (.int .i64 (sub 1).head.n) ∧ w'.cell? ⟨h.pb, h.po + 4 + 2, none⟩ = some (.slice (sub 1).head.eg (sub 1).head.en (sub 1).head.ec) ∧ w'.cell? ⟨h.pb, h.po + 4 + 3, none⟩ = some (.slice (sub 1).head.pg (sub 1).head.pn (sub 1).head.pc)) := hide (fun w' hb => by
        have hbw := hb0.trans (hb.mono (by omega))
        have a0 := at0.below hbw hplt
        have a1 := at1.below hbw hplt
        exact ⟨(b0.below hb (by omega)).cell 3, a0.c0, a0.c1, a0.c2, a0.c3, a1.c0, a1.c1, a1.c2, a1.c3⟩)
      have HW := HK.out W (Below.refl _ _)
      have HI0 := hide (fun (w' : World) (hb : Below (w.heap.size + 2) W w') => in0.grown (hb0.trans (hb.mono (by omega))))
      have HI1 := hide (fun (w' : World) (hb : Below (w.heap.size + 2) W w') => in1.grown (hb0.trans (hb.mono (by omega))))
      have hWd : Below (w.heap.size + 2) W W.drew := ⟨rfl, rfl, rfl, Nat.le_refl _, fun _ _ => rfl⟩
      clear c0 c1 c2 c3 in0 in1 at0 at1
      go_region_held3 (fun w' => w'.cell? ⟨w.heap.size, 3, none⟩ = some (.slice (some ⟨h.pb, h.po, none⟩) h.pn h.pc) ∧ w'.cell? ⟨h.pb, h.po, none⟩ = some (.int .i64 (sub 0).head.kind) ∧ w'.cell? ⟨h.pb, h.po + 1, none⟩ = some (.int .i64 (sub 0).head.n) ∧ w'.cell? ⟨h.pb, h.po + 2, none⟩ = some (.slice (sub 0).head.eg (sub 0).head.en (sub 0).head.ec) ∧ w'.cell? ⟨h.pb, h.po + 3, none⟩ = some (.slice (sub 0).head.pg (sub 0).head.pn (sub 0).head.pc) ∧ w'.cell? ⟨h.pb, h.po + 4, none⟩ = some (.int .i64 (sub 1).head.kind) ∧ w'.cell? ⟨h.pb, h.po + 4 + 1, none⟩ = some (.int .i64 (sub 1).head.n) ∧ w'.cell? ⟨h.pb, h.po + 4 + 2, none⟩ = some (.slice (sub 1).head.eg (sub 1).head.en (sub 1).head.ec) ∧ w'.cell? ⟨h.pb, h.po + 4 + 3, none⟩ = some (.slice (sub 1).head.pg (sub 1).head.pn (sub 1).head.pc)) (first | exact HK.out _ ⟨rfl, rfl, rfl, Nat.le_refl _, fun _ _ => rfl⟩ | exact HK.out _ hK1 | exact HK.out _ hK2 | exact HK.out _ hK3 | exact HK.out _ (below3 hK3 (Nat.le_refl _) _ _ _))
        (first
          | (go_at_call 65; refine (H0.out _ (HI0.out _ hWd)).mono ?_; rintro e w1 ⟨⟨m0, rfl, al0, mi0, fr0⟩, hb1⟩; have hB1 := hWd.trans (hb1.mono (show w.heap.size + 2 ≤ W.heap.size from Nat.le_of_eq hsz.symm)); have hK1 := hB1.mono (show w.heap.size + 1 ≤ w.heap.size + 2 by omega); clear H0)
          | (go_at_call 65; refine (H1.out _ (HI1.out _ hB1)).mono ?_; rintro e w2 ⟨⟨m1, rfl, al1, mi1, fr1⟩, hb2⟩; have hB2 := hB1.trans (hb2.mono (by have := hB1.size; omega)); have hK2 := hB2.mono (show w.heap.size + 1 ≤ w.heap.size + 2 by omega); have mi0' := (mi0.below hb2 (Nat.le_refl _)).mono hb2.size; clear H1)
          | (go_at_call 107; refine (HP.out m0 m1 _ (lies_of al0) (lies_of al1) mi0' mi1).mono ?_; rintro e w3 ⟨⟨m, rfl, hal, hmi, hfr⟩, hb3⟩; have hB3 := hB2.trans (hb3.mono (by have := hB2.size; omega)); have hK3 := hB3.mono (show w.heap.size + 1 ≤ w.heap.size + 2 by omega); have bR := b1.below hB3 (by omega); have d0 := bR.cell 0; have d1 := bR.cell 1; have d2 := bR.cell 2; have df := bR.frozen; simp at d0 d1 d2; simp only [AlgM.val, Mat.val]))
      all_goals
        obtain ⟨bR', hM, hB⟩ := (HEnd.out m w3 hal hmi (hfr.mono (by have := hB2.size; omega)) hB3).2
        have e0 := bR'.cell 0
        have e1 := bR'.cell 1
        have e2 := bR'.cell 2
        unfold Ytjhkadffaephmaa.set3 at e0 e1 e2
        simp at e0 e1 e2
        have HM := hide hM
        have HB := hide hB
        clear hM hB hal hmi hfr
        go_wp2
        exact bodyPost_ret (v := .agg #[.int .i64 m.size, .slice m.B.ga m.B.t.len m.B.cap, .slice m.E.ga m.E.t.len m.E.cap]) (by simp [results, Try.results65, go_sem, e0, e1, e2]) rfl ⟨HM.out, HB.out⟩
    obtain ⟨k, pn, n0, e0', en, ev⟩ := hR
    · skip
      have k3 : ¬ h.kind = 3 := by omega
      simp only [if_neg k3, if_pos k]
      obtain ⟨o0, z0, g0⟩ := built_ok e0' (hsw 0 (by omega))
      have f1 : (h.kind == 1) = false := by simp [k]
      have f2 : (h.kind == 2) = false := by simp [k]
      have f3 : (h.kind == 3) = false := by simp [k]
      have f4 : (h.kind == 4) = true := by simp [k]
      have HEnd := hide (hend (filtN (sub 0).built h.evN))
      obtain ⟨at0, in0⟩ := hs 0 (by omega)
      have hpa := hh.pa (by omega)
      have hplt := hh.pl (by omega)
      have hpn0 : (0 : Int) < (h.pn : Int) := by omega
      have hpn0' : 0 < h.pn := by omega
      have sw0 := hsw 0 (by omega)
      have HP : Hid (∀ m0 (b : Nat) (w2 : World), b ≤ w2.heap.size → m0.FromS b w2 → LiesA m0 (sub 0).built → m0.In w2.heap.size w2 → h.In w2.heap.size w2 → Calls Try.prog 108 #[m0.val, .slice h.eg h.en h.ec] w2 fun e w' => Made (filtN (sub 0).built h.evN) b e w' ∧ Below w2.heap.size w2 w') :=
        hide (fun m0 b w2 hb hf l0 i0 ih0 => buildFilter_any h m0 _ b w2 hb hf ih0 l0 i0 o0 (by rw [g0]; exact en) (by rw [z0]; exact ev))
      have H0 := hide (fun (w' : World) (hi : (sub 0).In w'.heap.size w') => IH.out 0 w' hi e0' sw0)
      simp only [hpa] at HEnd hsz b0 b1 hb0 c0 c1 c2 c3 ⊢
      clear k k3 pn n0 en e0' ev o0 z0 g0 hend hsw hs IH sw0 hpa hhW
      go_enter Try.func65, Try.ntmps65
      go_wp2_with fail
      generalize ((w.alloc (.cells #[.int .i64 h.kind, .int .i64 h.n, .slice h.eg h.en h.ec, .slice (some ⟨h.pb, h.po, none⟩) h.pn h.pc] 42)).alloc (.cells #[.int .i64 0, .slice none 0 0, .slice none 0 0] 24)) = W at *
      have HK : Hid (∀ w', Below (w.heap.size + 1) W w' → w'.cell? ⟨w.heap.size, 2, none⟩ = some (.slice h.eg h.en h.ec) ∧ w'.cell? ⟨w.heap.size, 3, none⟩ = some (.slice (some ⟨h.pb, h.po, none⟩) h.pn h.pc) ∧ w'.cell? ⟨h.pb, h.po, none⟩ = some (.int .i64 (sub 0).head.kind) ∧ w'.cell? ⟨h.pb, h.po + 1, none⟩ = some (.int .i64 (sub 0).head.n) ∧ w'.cell? ⟨h.pb, h.po + 2, none⟩ = some (.slice (sub 0).head.eg (sub 0).head.en (sub 0).head.ec) ∧ w'.cell? ⟨h.pb, h.po + 3, none⟩ = some (.slice (sub 0).head.pg (sub 0).head.pn (sub 0).head.pc)) := hide (fun w' hb => by
        have hbw := hb0.trans (hb.mono (by omega))
        have a0 := at0.below hbw hplt
        exact ⟨(b0.below hb (by omega)).cell 2, (b0.below hb (by omega)).cell 3, a0.c0, a0.c1, a0.c2, a0.c3⟩)
      have HW := HK.out W (Below.refl _ _)
      have HI0 := hide (fun (w' : World) (hb : Below (w.heap.size + 2) W w') => in0.grown (hb0.trans (hb.mono (by omega))))
      have HHI := hide (fun (w' : World) (hb : Below (w.heap.size + 2) W w') => (hh.below (hb0.trans (hb.mono (by omega))) (Nat.le_refl _)).mono (hb0.trans (hb.mono (by omega))).size)
      have hWd : Below (w.heap.size + 2) W W.drew := ⟨rfl, rfl, rfl, Nat.le_refl _, fun _ _ => rfl⟩
      clear c0 c1 c2 c3 in0 at0
      go_region_held3 (fun w' => w'.cell? ⟨w.heap.size, 2, none⟩ = some (.slice h.eg h.en h.ec) ∧ w'.cell? ⟨w.heap.size, 3, none⟩ = some (.slice (some ⟨h.pb, h.po, none⟩) h.pn h.pc) ∧ w'.cell? ⟨h.pb, h.po, none⟩ = some (.int .i64 (sub 0).head.kind) ∧ w'.cell? ⟨h.pb, h.po + 1, none⟩ = some (.int .i64 (sub 0).head.n) ∧ w'.cell? ⟨h.pb, h.po + 2, none⟩ = some (.slice (sub 0).head.eg (sub 0).head.en (sub 0).head.ec) ∧ w'.cell? ⟨h.pb, h.po + 3, none⟩ = some (.slice (sub 0).head.pg (sub 0).head.pn (sub 0).head.pc)) (first | exact HK.out _ ⟨rfl, rfl, rfl, Nat.le_refl _, fun _ _ => rfl⟩ | exact HK.out _ hK1 | exact HK.out _ hK3 | exact HK.out _ (below3 hK3 (Nat.le_refl _) _ _ _))
        (first
          | (go_at_call 65; refine (H0.out _ (HI0.out _ hWd)).mono ?_; rintro e w1 ⟨⟨m0, rfl, al0, mi0, fr0⟩, hb1⟩; have hB1 := hWd.trans (hb1.mono (show w.heap.size + 2 ≤ W.heap.size from Nat.le_of_eq hsz.symm)); have hK1 := hB1.mono (show w.heap.size + 1 ≤ w.heap.size + 2 by omega); clear H0)
          | (go_at_call 108; refine (HP.out m0 _ _ hb1.size fr0 (lies_of al0) mi0 (HHI.out _ hB1)).mono ?_; rintro e w3 ⟨⟨m, rfl, hal, hmi, hfr⟩, hb3⟩; have hB3 := hB1.trans (hb3.mono (by have := hB1.size; omega)); have hK3 := hB3.mono (show w.heap.size + 1 ≤ w.heap.size + 2 by omega); have bR := b1.below hB3 (by omega); have d0 := bR.cell 0; have d1 := bR.cell 1; have d2 := bR.cell 2; have df := bR.frozen; simp at d0 d1 d2; simp only [AlgM.val, Mat.val]))
      all_goals
        obtain ⟨bR', hM, hB⟩ := (HEnd.out m w3 hal hmi (hfr.mono (by show w.heap.size + 2 ≤ W.heap.size; omega)) hB3).2
        have e0 := bR'.cell 0
        have e1 := bR'.cell 1
        have e2 := bR'.cell 2
        unfold Ytjhkadffaephmaa.set3 at e0 e1 e2
        simp at e0 e1 e2
        have HM := hide hM
        have HB := hide hB
        clear hM hB hal hmi hfr
        go_wp2
        exact bodyPost_ret (v := .agg #[.int .i64 m.size, .slice m.B.ga m.B.t.len m.B.cap, .slice m.E.ga m.E.t.len m.E.cap]) (by simp [results, Try.results65, go_sem, e0, e1, e2]) rfl ⟨HM.out, HB.out⟩

end Go.Proofs.Ytjhkadffaephmaa
