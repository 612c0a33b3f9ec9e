/-
  ReadOf of bytes whose head is right.
-/
import Derived.Test.YtjhkadffaephmabRefRead
namespace Go.Proofs.Ytjhkadffaephmab
set_option maxRecDepth 100000
open Go.RowKit

theorem ReadAns.drewN {l : List UInt8} {base : Nat} {e : Ending} {w' : World} (h : ReadAns l base e w') (n : Nat) : ReadAns l base e (w'.drewN n) := by
  obtain ⟨p, h1, h2, h3, h4⟩ := h
  exact ⟨p, h1, h2, ⟨ints_drewN h3.ints n, h3.lt, h3.small⟩, fun h0 => ⟨(h4 h0).1, (h4 h0).2.grown (below_drewN (Below.refl _ _) n)⟩⟩

theorem wrap_i64 {x : Int} (h0 : 0 ≤ x) (h1 : x < 1000) : IntKind.i64.wrap x = x := by
  simp [IntKind.wrap, IntKind.bits, IntKind.signed]; omega

set_option maxHeartbeats 4000000 in
theorem readOf_any (l : List UInt8) (w : World) (hl : l.length ≤ maxLen) :
    Calls Try.prog 14 #[txt l] w fun e w' => ReadAns l w.heap.size e w' ∧ Below w.heap.size w w' := by
  unfold maxLen at hl
  have hsz : (ByteArray.mk l.toArray).size = l.length := by simp [ByteArray.size]
  have b0 := Blk.new w #[.int .i64 0, .int .i64 0, .slice none 0 0] 24
  have hB0 : Below w.heap.size w (w.alloc (.cells #[.int .i64 0, .int .i64 0, .slice none 0 0] 24)) := (Below.refl _ w).alloc (Nat.le_refl _) _
  by_cases h60 : 60 < l.length
  · have HBe := hide hB0
    have d0 := b0.cell 0
    have d1 := b0.cell 1
    have d2 := b0.cell 2
    have df := b0.frozen
    simp at d0 d1 d2
    have Hx : Hid (readErr l = 2) := hide (by unfold readErr; rw [if_pos h60])
    unfold txt
    generalize hs : ByteArray.mk l.toArray = s at *
    have h60i : (60 : Int) < (s.size : Int) := by omega
    clear h60 hs b0 hB0
    go_enter Try.func14, Try.ntmps14
    go_wp2
    exact bodyPost_ret (v := .tuple #[.agg #[.int .i64 0, .int .i64 0, .slice none 0 0], .int .i64 2]) (by simp [results, Try.results14, go_sem]) rfl ⟨readAns_bad Hx.out (by decide), HBe.out⟩
  by_cases h6 : l.length < 6
  · exact readOf_bad l w (by omega) (by unfold readErr; rw [if_neg h60, if_pos h6]) (Or.inl h6)
  obtain ⟨a, b, c, d, r, x, y, e6⟩ := split6 l (by omega)
  have hlr : l.length = r.length + 6 := by rw [e6]; simp
  have hsp := readErr_split (a := a) (b := b) (c := c) (d := d) (x := x) (y := y) (r := r) (by omega)
  rw [← e6] at hsp
  have q0 : l.getD 0 0 = a := by rw [e6]; rfl
  have q1 : l.getD 1 0 = b := by rw [e6]; rfl
  have q2 : l.getD 2 0 = c := by rw [e6]; rfl
  have q3 : l.getD 3 0 = d := by rw [e6]; rfl
  by_cases k0 : a.toNat = 83
  rotate_left
  · exact readOf_bad l w (by omega) (by rw [hsp, if_neg (fun h => k0 h.1)]) (Or.inr (Or.inl ⟨by omega, by rw [q0]; exact k0⟩))
  by_cases k3 : d.toNat = r.length
  rotate_left
  · exact readOf_bad l w (by omega) (by rw [hsp, if_neg (fun h => k3 h.2.1)]) (Or.inr (Or.inr (Or.inl ⟨by omega, by rw [q0]; exact k0, by rw [q3]; omega⟩)))
  by_cases k1 : b.toNat ≤ 250
  rotate_left
  · exact readOf_bad l w (by omega) (by rw [hsp, if_neg (fun h => k1 h.2.2.1)]) (Or.inr (Or.inr (Or.inr (Or.inl ⟨by omega, by rw [q0]; exact k0, by rw [q3]; omega, by rw [q1]; omega⟩))))
  by_cases k2 : c.toNat ≤ 250
  rotate_left
  · exact readOf_bad l w (by omega) (by rw [hsp, if_neg (fun h => k2 h.2.2.2.1)]) (Or.inr (Or.inr (Or.inr (Or.inr ⟨by omega, by rw [q0]; exact k0, by rw [q3]; omega, by rw [q1]; omega, by rw [q2]; omega⟩))))
  obtain ⟨W0, hW0⟩ : ∃ W0, W0 = w.alloc (.cells #[.int .i64 0, .int .i64 0, .slice none 0 0] 24) := ⟨_, rfl⟩
  rw [← hW0] at b0 hB0
  have hw0 : W0.heap.size = w.heap.size + 1 := by rw [hW0]; simp
  have HG : Hid (∀ (i : Nat) (h : i < (ByteArray.mk l.toArray).size), ((ByteArray.mk l.toArray)[i]).toNat = (l.getD i 0).toNat) := hide (fun i h => by rw [read_idx h])
  have hex : (ByteArray.mk l.toArray).extract 0 (l.length - 2) = ByteArray.mk ([a, b, c, d] ++ r).toArray := by
    rw [ByteArray.extract_mk]
    congr 2
    rw [hlr, e6]
    simp
  have HS := hide (fun W => sumOf_any ([a, b, c, d] ++ r) W (by simp; omega))
  unfold txt at HS ⊢
  have gr : ∀ k, k < r.length → l.getD (4 + k) 0 = r.getD k 0 := fun k hk => by
    have h1 := (packet_split a b c d r x y).2.2.2 k (by rw [(packet_split a b c d r x y).2.2.1]; exact hk)
    rw [← e6] at h1
    have h2 : ((l.getD (4 + k) 0).toNat : Int) = ((r.getD k 0).toNat : Int) := h1
    exact UInt8.toNat_inj.1 (by omega)
  have gx : l.getD (l.length - 2) 0 = x ∧ l.getD (l.length - 1) 0 = y := by
    constructor
    · rw [hlr, e6, List.getD_eq_getElem?_getD, List.getElem?_append_right (by simp)]; simp
    · rw [hlr, e6, List.getD_eq_getElem?_getD, List.getElem?_append_right (by simp)]; simp
  have Hpk : Hid ((packet l).same ⟨(b.toNat : Int), (c.toNat : Int), r.length, fun i => ((r.getD i 0).toNat : Int)⟩) := hide (by rw [e6]; exact packet_split a b c d r x y)
  have hbx := x.toNat_lt
  have hby := y.toNat_lt
  have hsum := sumOf_lt ([a, b, c, d] ++ r)
  generalize ByteArray.mk ([a, b, c, d] ++ r).toArray = sb at *
  generalize ByteArray.mk l.toArray = s at *
  have g0 : ∀ h : 0 < s.size, (s[0]'h).toNat = 83 := fun h => by rw [HG.out 0 h, q0, k0]
  have g1 : ∀ h : 1 < s.size, (s[1]'h).toNat = b.toNat := fun h => by rw [HG.out 1 h, q1]
  have g2 : ∀ h : 2 < s.size, (s[2]'h).toNat = c.toNat := fun h => by rw [HG.out 2 h, q2]
  have g3 : ∀ h : 3 < s.size, (s[3]'h).toNat = l.length - 6 := fun h => by rw [HG.out 3 h, q3, k3]; omega
  have gs : Hid (∀ k, k < r.length → ∀ h : 4 + k < s.size, (s[4 + k]'h).toNat = (r.getD k 0).toNat) := hide (fun k hk h => by rw [HG.out _ h, gr k hk])
  have g4 : ∀ h : l.length - 2 < s.size, (s[l.length - 2]'h).toNat = x.toNat := fun h => by rw [HG.out _ h, gx.1]
  have g5 : ∀ h : l.length - 1 < s.size, (s[l.length - 1]'h).toNat = y.toNat := fun h => by rw [HG.out _ h, gx.2]
  have Hsp : Hid (readErr l = if (∀ i, i < r.length → (r.getD i 0).toNat ≤ 250) ∧ sumOf ([a, b, c, d] ++ r) = 256 * x.toNat + y.toNat then 0 else 1) := hide (by
    rw [hsp]
    by_cases hc : (∀ i, i < r.length → (r.getD i 0).toNat ≤ 250) ∧ sumOf ([a, b, c, d] ++ r) = 256 * x.toNat + y.toNat
    · rw [if_pos hc, if_pos ⟨k0, k3, k1, k2, hc⟩]
    · rw [if_neg hc, if_neg (fun h => hc h.2.2.2.2)])
  generalize sumOf ([a, b, c, d] ++ r) = sm at *
  generalize b.toNat = F at *
  generalize c.toNat = T at *
  generalize x.toNat = X at *
  generalize y.toNat = Y at *
  have h60i : ¬ (60 : Int) < (s.size : Int) := by omega
  have h6i : ¬ (s.size : Int) < 6 := by omega
  have k1i : ¬ (250 : Int) < (F : Int) := by omega
  have k2i : ¬ (250 : Int) < (T : Int) := by omega
  have k3i : (((l.length - 6 : Nat) : Int) != (l.length : Int) - 6) = false := by simp; omega
  have HLR := hide hlr
  have hr54 : r.length ≤ 54 := by omega
  clear hlr e6 hsp q0 q1 q2 q3 k0 k3 HG gr gx
  go_enter Try.func14, Try.ntmps14
  go_wp2
  rw [← hW0]
  clear hW0
  go_cut [4] from 38 to 44 (fun p4 wx => ∃ b4 : Nat, p4 = .pointer (some ⟨b4, 0, none⟩) ∧ Hid (w.heap.size < b4 ∧ Blk wx b4 #[.int .i64 (F : Int), .int .i64 (T : Int), .slice none 0 0] 24 ∧ Below (w.heap.size + 1) W0 wx))
  case first =>
    go_region
    go_wp2_with fail
    go_meet
    exact ⟨_, rfl, hide ⟨by omega, Blk.new' (by simp [hw0]), ((Below.refl _ W0).alloc (by omega) _).trans ⟨rfl, rfl, rfl, Nat.le_refl _, fun _ _ => rfl⟩⟩⟩
  case rest =>
    obtain ⟨b4, rfl, HC⟩ := hcut
    have HI0 : Hid (ReadI w b4 0 wc.heap.size F T r [] 0 wc) := hide (by
      obtain ⟨p1, p2, p3⟩ := HC.out
      have p3s := p3.size
      exact ⟨hB0.trans (p3.mono (by omega)), b0.below p3 (by omega), p1, p2.lt, by omega, by have := p2.lt; omega, ⟨_, p2, World.ownsRow_nil _ _ _ _⟩, fun j hj => absurd hj (Nat.not_lt_zero _), Nat.le_refl _⟩)
    obtain ⟨C, hC⟩ : ∃ C, C = wc.heap.size := ⟨_, rfl⟩
    rw [← hC] at HI0
    clear hC HC
    go_wp2
    go_loopw [5] (fun q wr => ∃ k : Nat, k ≤ r.length ∧ q = .int .i64 ((4 + k : Nat) : Int) ∧ Hid (ReadI w b4 0 C F T r [] k wr) ∧ Hid (∀ i, i < k → (r.getD i 0).toNat ≤ 250)) (fun q _ => r.length + 4 - (intOf q).toNat)
    case atStart => exact ⟨0, Nat.zero_le _, rfl, HI0, hide (fun i hi => absurd hi (Nat.not_lt_zero _))⟩
    case round =>
      obtain ⟨k, hk, rfl, HI, Hall⟩ := hrel
      have hlr := HLR.out
      have hres := HI.out.res
      have r0 := hres.cell 0
      have r1 := hres.cell 1
      have r2 := hres.cell 2
      have rf := hres.frozen
      simp at r0 r1 r2
      by_cases hlt : k < r.length
      · have hki : ((4 + k : Nat) : Int) < (l.length : Int) - 2 := by omega
        have hks : ((4 + k : Nat) : Int) < (s.size : Int) := by omega
        have gk := gs.out k hlt
        have hrk := (r.getD k 0).toNat_lt
        have Hrv : Hid (∀ W4 (g cap : Nat) v, W4.ownsRow C 3 1 (.slice (some ⟨g, 0, none⟩) (k + 1) cap) (k + 1) (intsL (fun i => ((r.getD i 0).toNat : Int)) k ++ [.int .i64 ((r.getD k 0).toNat : Int)]) → Blk wr b4 #[.int .i64 F, .int .i64 T, v] 24 → Below C wr W4 → ReadI w b4 0 C F T r [] (k + 1) (W4.setCell ⟨b4, 2, none⟩ (.slice (some ⟨g, 0, none⟩) (k + 1) cap))) := hide (fun W4 g cap v h1 h2 h3 => HI.out.put h1 h2 h3)
        by_cases hbig : (r.getD k 0).toNat ≤ 250
        · have HN2 : Hid (∀ i, i < k + 1 → (r.getD i 0).toNat ≤ 250) := hide (fun i hi => by
            by_cases e : i = k
            · subst e; exact hbig
            · exact Hall.out i (by omega))
          obtain ⟨v, hv, ho⟩ := HI.out.cur
          have hlo := HI.out.lo
          have hmid := HI.out.mid
          have hCw := HI.out.lt
          obtain ⟨g', cap', w4, hrun, hown2, hbw⟩ := append_run wr C v k _ ((r.getD k 0).toNat : Int) ho (by omega) hCw 22
          have HN := hide (Hrv.out w4 g' cap' v hown2 hv hbw)
          have hb4 := hv.below hbw (by omega)
          have v2 := hv.cell 2
          have v2a : ∀ o, (wr.alloc o).cell? ⟨b4, 2, none⟩ = some v := fun o => (hv.alloc o).cell 2
          have v2' := hb4.cell 2
          have vf' := hb4.frozen 2
          simp at v2 v2'
          have R1 : Hid (∀ z : Int, z = ((r.getD k 0).toNat : Int) → (Builtin.append_ #[22, 22] 22 #[v, .slice (some ⟨wr.heap.size, 0, none⟩) 1 1]).run Try.prog (wr.alloc (.cells #[.int .i64 z] 3)).drew = .ok (.slice (some ⟨g', 0, none⟩) (k + 1) cap') w4) := hide (fun z hz => by rw [hz]; exact hrun)
          have HZ : Hid (∀ h, IntKind.i64.wrap (((s[(4 + (k : Int)).toNat]'h).toNat : Nat) : Int) = ((r.getD k 0).toNat : Int)) := hide (fun h => by
            have e : (4 + (k : Int)).toNat = 4 + k := by omega
            simp only [e]
            rw [gk (by omega)]
            exact wrap_i64 (by omega) (by omega))
          generalize (r.getD k 0).toNat = rv at *
          have hbigi : ¬ (250 : Int) < (rv : Int) := by omega
          clear hrun hown2 hbw hb4 hv ho Hrv HI Hall hres hlr
          go_wp2
          go_region_law (refine step_append_run rfl (.tmp 58) (.tmp 63) 22 rfl v (.slice (some ⟨wr.heap.size, 0, none⟩) 1 1) (by simp [Act.eval]) (by simp [Act.eval]) (.slice (some ⟨g', 0, none⟩) (k + 1) cap') w4 (R1.out _ (HZ.out _)) ?_)
          all_goals
            go_wp2
            go_roundw
            case rel =>
              first
              | exact ⟨k + 1, by omega, by go_num, HN, HN2⟩
              | ((try refine ⟨trivial, ?_⟩); (repeat apply Exists.intro); refine ⟨?_, rfl⟩; exact ⟨k + 1, by omega, by go_num, HN, HN2⟩)
            case measure => simp [intOf]; omega
        · have Hx : Hid (readErr l = 1) := hide (by rw [Hsp.out, if_neg (fun h => hbig (h.1 k hlt))])
          have b3 := hres.set3 (.int .i64 0) (.int .i64 0) (.slice none 0 0)
          have e0 := b3.cell 0
          have e1 := b3.cell 1
          have e2 := b3.cell 2
          unfold Ytjhkadffaephmab.set3 at e0 e1 e2
          simp at e0 e1 e2
          have HBe := hide (below3 HI.out.below (Nat.le_refl _) (.int .i64 0) (.int .i64 0) (.slice none 0 0))
          generalize (r.getD k 0).toNat = rv at *
          have hbigi : (250 : Int) < (rv : Int) := by omega
          clear Hrv HI Hall hres hlr b3
          go_wp2
          exact bodyPost_ret (v := .tuple #[.agg #[.int .i64 0, .int .i64 0, .slice none 0 0], .int .i64 1]) (by simp [results, Try.results14, go_sem, e0, e1, e2]) rfl ⟨readAns_bad Hx.out (by decide), HBe.out⟩
      · have hkn : k = r.length := by omega
        subst hkn
        have hki : ¬ ((4 + r.length : Nat) : Int) < (l.length : Int) - 2 := by omega
        have HS1 := hide (HS.out)
        have hl2 : (2 : Int) ≤ (l.length : Int) := by omega
        have i4 : ((l.length - 2 : Nat) : Int) = (l.length : Int) - 2 := by omega
        have i5 : ((l.length - 1 : Nat) : Int) = (l.length : Int) - 1 := by omega
        have hX : X < 256 := hbx
        have hY : Y < 256 := hby
        have hex2 : s.extract 0 ((l.length : Int) - 2).toNat = sb := by rw [← hex]; congr 1; omega
        have g4' : ∀ h, (s[((l.length : Int) - 2).toNat]'h).toNat = X := fun h => by
          have e : ((l.length : Int) - 2).toNat = l.length - 2 := by omega
          simp only [e]; exact g4 (by omega)
        have g5' : ∀ h, (s[((l.length : Int) - 1).toNat]'h).toNat = Y := fun h => by
          have e : ((l.length : Int) - 1).toNat = l.length - 1 := by omega
          simp only [e]; exact g5 (by omega)
        have j4 : 0 ≤ (l.length : Int) - 2 := by omega
        have j5 : 0 ≤ (l.length : Int) - 1 := by omega
        have j6 : (l.length : Int) - 2 < (s.size : Int) := by omega
        have j7 : (l.length : Int) - 1 < (s.size : Int) := by omega
        have j8 : (l.length : Int) - 2 ≤ (s.size : Int) := by omega
        obtain ⟨p, hp, hpk, hpi, hpr, hps⟩ := HI.out.pkt (by omega)
        have c0 := hp.cell 0
        have c1 := hp.cell 1
        have c2 := hp.cell 2
        simp [PktM.cells] at c0 c1 c2
        by_cases hsm : sm = 256 * X + Y
        · have hne : ((sm : Int) != 256 * (X : Int) + (Y : Int)) = false := by simp; omega
          have Hx : Hid (readErr l = 0) := hide (by rw [Hsp.out, if_pos ⟨Hall.out, hsm⟩])
          have b3 := fun q => (show Blk (wr.drewN q) w.heap.size #[.int .i64 0, .int .i64 0, .slice none 0 0] 24 from hres).set3 (.int .i64 p.F) (.int .i64 p.T) (.slice p.ra p.n p.rc)
          have e0 := fun q => (b3 q).cell 0
          have e1 := fun q => (b3 q).cell 1
          have e2 := fun q => (b3 q).cell 2
          unfold Ytjhkadffaephmab.set3 at e0 e1 e2
          simp at e0 e1 e2
          have hsame : p.pkt.same (packet l) := by
            have h1 := Hpk.out
            rw [hpk]
            exact ⟨h1.1.symm, h1.2.1.symm, h1.2.2.1.symm, fun i hi => (h1.2.2.2 i (by have := h1.2.2.1; simp only at this hi; omega)).symm⟩
          have HA : Hid (ReadAns l w.heap.size (.returned (.tuple #[.agg #[.int .i64 p.F, .int .i64 p.T, .slice p.ra p.n p.rc], .int .i64 0])) (set3 wr w.heap.size (.int .i64 p.F) (.int .i64 p.T) (.slice p.ra p.n p.rc))) :=
            hide ⟨p, by rw [Hx.out]; rfl, by unfold readOf; rw [if_pos Hx.out]; exact hsame, hpi.set3 hpr _ _ _, fun h0 => ⟨Nat.le_of_lt (hpr h0), by unfold Ytjhkadffaephmab.set3; exact (((hps h0).set _ _).set _ _).set _ _⟩⟩
          have HBe := hide (below3 HI.out.below (Nat.le_refl _) (.int .i64 p.F) (.int .i64 p.T) (.slice p.ra p.n p.rc))
          clear hsame hpk hpi hpr hps hp HI Hall hres hlr b3 hsm HI0
          go_wp2_with fail
          go_quiet ((go_at_call 64; refine Calls.quiet_of (HS.out _)))
          go_wp2
          exact bodyPost_ret (v := .tuple #[.agg #[.int .i64 p.F, .int .i64 p.T, .slice p.ra p.n p.rc], .int .i64 0]) (by simp [results, Try.results14, go_sem, e0, e1, e2]) rfl ⟨HA.out.drewN _, below_drewN HBe.out _⟩
        · have hne : ((sm : Int) != 256 * (X : Int) + (Y : Int)) = true := by simp; omega
          have Hx : Hid (readErr l = 1) := hide (by rw [Hsp.out, if_neg (fun h => hsm h.2)])
          have b3 := fun q => (show Blk (wr.drewN q) w.heap.size #[.int .i64 0, .int .i64 0, .slice none 0 0] 24 from hres).set3 (.int .i64 0) (.int .i64 0) (.slice none 0 0)
          have e0 := fun q => (b3 q).cell 0
          have e1 := fun q => (b3 q).cell 1
          have e2 := fun q => (b3 q).cell 2
          unfold Ytjhkadffaephmab.set3 at e0 e1 e2
          simp at e0 e1 e2
          have HBe := hide (below3 HI.out.below (Nat.le_refl _) (.int .i64 0) (.int .i64 0) (.slice none 0 0))
          clear hpk hpi hpr hps hp HI Hall hres hlr b3 hsm HI0
          go_wp2_with fail
          go_quiet ((go_at_call 64; refine Calls.quiet_of (HS.out _)))
          go_wp2
          exact bodyPost_ret (v := .tuple #[.agg #[.int .i64 0, .int .i64 0, .slice none 0 0], .int .i64 1]) (by simp [results, Try.results14, go_sem, e0, e1, e2]) rfl ⟨readAns_bad Hx.out (by decide), below_drewN HBe.out _⟩

end Go.Proofs.Ytjhkadffaephmab
