/-
  Our own texts, bundled: a claim holds few files.
-/
import Derived.Test.YtjhkadffaephmabGreatCutEnginePlaysCF
import Derived.Test.YtjhkadffaephmabGreatCutEnginePlaysCD
import Derived.Test.YtjhkadffaephmabGreatCutEnginePlaysAI
/-
  ReadOf of bytes whose head is right.
-/
namespace Go.Proofs.YtjhkadffaephmabGreat
set_option maxRecDepth 100000
open Go.RowKit

theorem ReadAns.drewN {l : List UInt8} {base : Nat} {e : Ending} {w' : World} (h : ReadAns l base e w') (n : Nat) : ReadAns l base e (w'.drewN n) := by
  obtain ⟨p, h1, h2, h3, h4⟩ := h
  exact ⟨p, h1, h2, ⟨ints_drewN h3.ints n, h3.lt, h3.small⟩, h4⟩

theorem wrap_i64 {x : Int} (h0 : 0 ≤ x) (h1 : x < 1000) : IntKind.i64.wrap x = x := by
  simp [IntKind.wrap, IntKind.bits, IntKind.signed]; omega

set_option maxHeartbeats 4000000 in
theorem readOf_any (l : List UInt8) (w : World) (hl : l.length ≤ maxLen) :
    Calls Tryz.prog 34 #[txt l] w fun e w' => ReadAns l w.heap.size e w' ∧ Below w.heap.size w w' := by
  unfold maxLen at hl
  have hsz : (ByteArray.mk l.toArray).size = l.length := by simp [ByteArray.size]
  have b0 := Blk.new w #[.int .i64 0, .int .i64 0, .slice none 0 0] 76
  have hB0 : Below w.heap.size w (w.alloc (.cells #[.int .i64 0, .int .i64 0, .slice none 0 0] 76)) := (Below.refl _ w).alloc (Nat.le_refl _) _
  by_cases h60 : 60 < l.length
  · have HBe := hide hB0
    have d0 := b0.cell 0
    have d1 := b0.cell 1
    have d2 := b0.cell 2
    have df := b0.frozen
    simp at d0 d1 d2
    have Hx : Hid (readErr l = 2) := hide (by unfold readErr; rw [if_pos h60])
    unfold txt
    generalize hs : ByteArray.mk l.toArray = s at *
    have h60i : (60 : Int) < (s.size : Int) := by omega
    clear h60 hs b0 hB0
    go_enter Tryz.func34, Tryz.ntmps34
    go_wp2
    exact bodyPost_ret (v := .tuple #[.agg #[.int .i64 0, .int .i64 0, .slice none 0 0], .int .i64 2]) (by simp [results, Tryz.results34, go_sem]) rfl ⟨readAns_bad Hx.out (by decide), HBe.out⟩
  by_cases h6 : l.length < 6
  · exact readOf_bad l w (by omega) (by unfold readErr; rw [if_neg h60, if_pos h6]) (Or.inl h6)
  obtain ⟨a, b, c, d, r, x, y, e6⟩ := split6 l (by omega)
  have hlr : l.length = r.length + 6 := by rw [e6]; simp
  have hsp := readErr_split (a := a) (b := b) (c := c) (d := d) (x := x) (y := y) (r := r) (by omega)
  rw [← e6] at hsp
  have q0 : l.getD 0 0 = a := by rw [e6]; rfl
  have q1 : l.getD 1 0 = b := by rw [e6]; rfl
  have q2 : l.getD 2 0 = c := by rw [e6]; rfl
  have q3 : l.getD 3 0 = d := by rw [e6]; rfl
  by_cases k0 : a.toNat = 83
  rotate_left
  · exact readOf_bad l w (by omega) (by rw [hsp, if_neg (fun h => k0 h.1)]) (Or.inr (Or.inl ⟨by omega, by rw [q0]; exact k0⟩))
  by_cases k3 : d.toNat = r.length
  rotate_left
  · exact readOf_bad l w (by omega) (by rw [hsp, if_neg (fun h => k3 h.2.1)]) (Or.inr (Or.inr (Or.inl ⟨by omega, by rw [q0]; exact k0, by rw [q3]; omega⟩)))
  by_cases k1 : b.toNat ≤ 250
  rotate_left
  · exact readOf_bad l w (by omega) (by rw [hsp, if_neg (fun h => k1 h.2.2.1)]) (Or.inr (Or.inr (Or.inr (Or.inl ⟨by omega, by rw [q0]; exact k0, by rw [q3]; omega, by rw [q1]; omega⟩))))
  by_cases k2 : c.toNat ≤ 250
  rotate_left
  · exact readOf_bad l w (by omega) (by rw [hsp, if_neg (fun h => k2 h.2.2.2.1)]) (Or.inr (Or.inr (Or.inr (Or.inr ⟨by omega, by rw [q0]; exact k0, by rw [q3]; omega, by rw [q1]; omega, by rw [q2]; omega⟩))))
  obtain ⟨W0, hW0⟩ : ∃ W0, W0 = w.alloc (.cells #[.int .i64 0, .int .i64 0, .slice none 0 0] 76) := ⟨_, rfl⟩
  rw [← hW0] at b0 hB0
  have hw0 : W0.heap.size = w.heap.size + 1 := by rw [hW0]; simp
  have HG : Hid (∀ (i : Nat) (h : i < (ByteArray.mk l.toArray).size), ((ByteArray.mk l.toArray)[i]).toNat = (l.getD i 0).toNat) := hide (fun i h => by rw [read_idx h])
  have hex : (ByteArray.mk l.toArray).extract 0 (l.length - 2) = ByteArray.mk ([a, b, c, d] ++ r).toArray := by
    rw [ByteArray.extract_mk]
    congr 2
    rw [hlr, e6]
    simp
  have HS := hide (fun W => sumOf_any ([a, b, c, d] ++ r) W (by simp; omega))
  unfold txt at HS ⊢
  have gr : ∀ k, k < r.length → l.getD (4 + k) 0 = r.getD k 0 := fun k hk => by
    have h1 := (packet_split a b c d r x y).2.2.2 k (by rw [(packet_split a b c d r x y).2.2.1]; exact hk)
    rw [← e6] at h1
    have h2 : ((l.getD (4 + k) 0).toNat : Int) = ((r.getD k 0).toNat : Int) := h1
    exact UInt8.toNat_inj.1 (by omega)
  have gx : l.getD (l.length - 2) 0 = x ∧ l.getD (l.length - 1) 0 = y := by
    constructor
    · rw [hlr, e6, List.getD_eq_getElem?_getD, List.getElem?_append_right (by simp)]; simp
    · rw [hlr, e6, List.getD_eq_getElem?_getD, List.getElem?_append_right (by simp)]; simp
  have Hpk : Hid ((packet l).same ⟨(b.toNat : Int), (c.toNat : Int), r.length, fun i => ((r.getD i 0).toNat : Int)⟩) := hide (by rw [e6]; exact packet_split a b c d r x y)
  have hbx := x.toNat_lt
  have hby := y.toNat_lt
  have hsum := sumOf_lt ([a, b, c, d] ++ r)
  generalize ByteArray.mk ([a, b, c, d] ++ r).toArray = sb at *
  generalize ByteArray.mk l.toArray = s at *
  have g0 : ∀ h : 0 < s.size, (s[0]'h).toNat = 83 := fun h => by rw [HG.out 0 h, q0, k0]
  have g1 : ∀ h : 1 < s.size, (s[1]'h).toNat = b.toNat := fun h => by rw [HG.out 1 h, q1]
  have g2 : ∀ h : 2 < s.size, (s[2]'h).toNat = c.toNat := fun h => by rw [HG.out 2 h, q2]
  have g3 : ∀ h : 3 < s.size, (s[3]'h).toNat = l.length - 6 := fun h => by rw [HG.out 3 h, q3, k3]; omega
  have gs : Hid (∀ k, k < r.length → ∀ h : 4 + k < s.size, (s[4 + k]'h).toNat = (r.getD k 0).toNat) := hide (fun k hk h => by rw [HG.out _ h, gr k hk])
  have g4 : ∀ h : l.length - 2 < s.size, (s[l.length - 2]'h).toNat = x.toNat := fun h => by rw [HG.out _ h, gx.1]
  have g5 : ∀ h : l.length - 1 < s.size, (s[l.length - 1]'h).toNat = y.toNat := fun h => by rw [HG.out _ h, gx.2]
  have Hsp : Hid (readErr l = if (∀ i, i < r.length → (r.getD i 0).toNat ≤ 250) ∧ sumOf ([a, b, c, d] ++ r) = 256 * x.toNat + y.toNat then 0 else 1) := hide (by
    rw [hsp]
    by_cases hc : (∀ i, i < r.length → (r.getD i 0).toNat ≤ 250) ∧ sumOf ([a, b, c, d] ++ r) = 256 * x.toNat + y.toNat
    · rw [if_pos hc, if_pos ⟨k0, k3, k1, k2, hc⟩]
    · rw [if_neg hc, if_neg (fun h => hc h.2.2.2.2)])
  generalize sumOf ([a, b, c, d] ++ r) = sm at *
  generalize b.toNat = F at *
  generalize c.toNat = T at *
  generalize x.toNat = X at *
  generalize y.toNat = Y at *
  have h60i : ¬ (60 : Int) < (s.size : Int) := by omega
  have h6i : ¬ (s.size : Int) < 6 := by omega
  have k1i : ¬ (250 : Int) < (F : Int) := by omega
  have k2i : ¬ (250 : Int) < (T : Int) := by omega
  have k3i : (((l.length - 6 : Nat) : Int) != (l.length : Int) - 6) = false := by simp; omega
  have HLR := hide hlr
  have hr54 : r.length ≤ 54 := by omega
  clear hlr e6 hsp q0 q1 q2 q3 k0 k3 HG gr gx
  go_enter Tryz.func34, Tryz.ntmps34
  go_wp2
  rw [← hW0]
  clear hW0
  go_cut [4] from 38 to 44 (fun p4 wx => ∃ b4 : Nat, p4 = .pointer (some ⟨b4, 0, none⟩) ∧ Hid (w.heap.size < b4 ∧ Blk wx b4 #[.int .i64 (F : Int), .int .i64 (T : Int), .slice none 0 0] 76 ∧ Below (w.heap.size + 1) W0 wx))
  case first =>
    go_region
    go_wp2_with fail
    go_meet
    exact ⟨_, rfl, hide ⟨by omega, Blk.new' (by simp [hw0]), ((Below.refl _ W0).alloc (by omega) _).trans ⟨rfl, rfl, rfl, Nat.le_refl _, fun _ _ => rfl⟩⟩⟩
  case rest =>
    obtain ⟨b4, rfl, HC⟩ := hcut
    have HI0 : Hid (ReadI w b4 0 wc.heap.size F T r [] 0 wc) := hide (by
      obtain ⟨p1, p2, p3⟩ := HC.out
      have p3s := p3.size
      exact ⟨hB0.trans (p3.mono (by omega)), b0.below p3 (by omega), p1, p2.lt, by omega, by have := p2.lt; omega, ⟨_, p2, World.ownsRow_nil _ _ _ _⟩, fun j hj => absurd hj (Nat.not_lt_zero _), Nat.le_refl _⟩)
    obtain ⟨C, hC⟩ : ∃ C, C = wc.heap.size := ⟨_, rfl⟩
    rw [← hC] at HI0
    clear hC HC
    go_wp2
    go_loopw [5] (fun q wr => ∃ k : Nat, k ≤ r.length ∧ q = .int .i64 ((4 + k : Nat) : Int) ∧ Hid (ReadI w b4 0 C F T r [] k wr) ∧ Hid (∀ i, i < k → (r.getD i 0).toNat ≤ 250)) (fun q _ => r.length + 4 - (intOf q).toNat)
    case atStart => exact ⟨0, Nat.zero_le _, rfl, HI0, hide (fun i hi => absurd hi (Nat.not_lt_zero _))⟩
    case round =>
      obtain ⟨k, hk, rfl, HI, Hall⟩ := hrel
      have hlr := HLR.out
      have hres := HI.out.res
      have r0 := hres.cell 0
      have r1 := hres.cell 1
      have r2 := hres.cell 2
      have rf := hres.frozen
      simp at r0 r1 r2
      by_cases hlt : k < r.length
      · have hki : ((4 + k : Nat) : Int) < (l.length : Int) - 2 := by omega
        have hks : ((4 + k : Nat) : Int) < (s.size : Int) := by omega
        have gk := gs.out k hlt
        have hrk := (r.getD k 0).toNat_lt
        have Hrv : Hid (∀ W4 (g cap : Nat) v, W4.ownsRow C 3 1 (.slice (some ⟨g, 0, none⟩) (k + 1) cap) (k + 1) (intsL (fun i => ((r.getD i 0).toNat : Int)) k ++ [.int .i64 ((r.getD k 0).toNat : Int)]) → Blk wr b4 #[.int .i64 F, .int .i64 T, v] 76 → Below C wr W4 → ReadI w b4 0 C F T r [] (k + 1) (W4.setCell ⟨b4, 2, none⟩ (.slice (some ⟨g, 0, none⟩) (k + 1) cap))) := hide (fun W4 g cap v h1 h2 h3 => HI.out.put h1 h2 h3)
        by_cases hbig : (r.getD k 0).toNat ≤ 250
        · have HN2 : Hid (∀ i, i < k + 1 → (r.getD i 0).toNat ≤ 250) := hide (fun i hi => by
            by_cases e : i = k
            · subst e; exact hbig
            · exact Hall.out i (by omega))
          obtain ⟨v, hv, ho⟩ := HI.out.cur
          have hlo := HI.out.lo
          have hmid := HI.out.mid
          have hCw := HI.out.lt
          obtain ⟨g', cap', w4, hrun, hown2, hbw⟩ := append_run wr C v k _ ((r.getD k 0).toNat : Int) ho (by omega) hCw 32
          have HN := hide (Hrv.out w4 g' cap' v hown2 hv hbw)
          have hb4 := hv.below hbw (by omega)
          have v2 := hv.cell 2
          have v2a : ∀ o, (wr.alloc o).cell? ⟨b4, 2, none⟩ = some v := fun o => (hv.alloc o).cell 2
          have v2' := hb4.cell 2
          have vf' := hb4.frozen 2
          simp at v2 v2'
          have R1 : Hid (∀ z : Int, z = ((r.getD k 0).toNat : Int) → (Builtin.append_ #[32, 32] 32 #[v, .slice (some ⟨wr.heap.size, 0, none⟩) 1 1]).run Tryz.prog (wr.alloc (.cells #[.int .i64 z] 3)).drew = .ok (.slice (some ⟨g', 0, none⟩) (k + 1) cap') w4) := hide (fun z hz => by rw [hz]; exact hrun)
          have HZ : Hid (∀ h, IntKind.i64.wrap (((s[(4 + (k : Int)).toNat]'h).toNat : Nat) : Int) = ((r.getD k 0).toNat : Int)) := hide (fun h => by
            have e : (4 + (k : Int)).toNat = 4 + k := by omega
            simp only [e]
            rw [gk (by omega)]
            exact wrap_i64 (by omega) (by omega))
          generalize (r.getD k 0).toNat = rv at *
          have hbigi : ¬ (250 : Int) < (rv : Int) := by omega
          clear hrun hown2 hbw hb4 hv ho Hrv HI Hall hres hlr
          go_wp2
          go_region_law (refine step_append_run rfl (.tmp 58) (.tmp 63) 32 rfl v (.slice (some ⟨wr.heap.size, 0, none⟩) 1 1) (by simp [Act.eval]) (by simp [Act.eval]) (.slice (some ⟨g', 0, none⟩) (k + 1) cap') w4 (R1.out _ (HZ.out _)) ?_)
          all_goals
            go_wp2
            go_roundw
            case rel =>
              first
              | exact ⟨k + 1, by omega, by go_num, HN, HN2⟩
              | ((try refine ⟨trivial, ?_⟩); (repeat apply Exists.intro); refine ⟨?_, rfl⟩; exact ⟨k + 1, by omega, by go_num, HN, HN2⟩)
            case measure => simp [intOf]; omega
        · have Hx : Hid (readErr l = 1) := hide (by rw [Hsp.out, if_neg (fun h => hbig (h.1 k hlt))])
          have b3 := hres.set3 (.int .i64 0) (.int .i64 0) (.slice none 0 0)
          have e0 := b3.cell 0
          have e1 := b3.cell 1
          have e2 := b3.cell 2
          unfold YtjhkadffaephmabGreat.set3 at e0 e1 e2
          simp at e0 e1 e2
          have HBe := hide (below3 HI.out.below (Nat.le_refl _) (.int .i64 0) (.int .i64 0) (.slice none 0 0))
          generalize (r.getD k 0).toNat = rv at *
          have hbigi : (250 : Int) < (rv : Int) := by omega
          clear Hrv HI Hall hres hlr b3
          go_wp2
          exact bodyPost_ret (v := .tuple #[.agg #[.int .i64 0, .int .i64 0, .slice none 0 0], .int .i64 1]) (by simp [results, Tryz.results34, go_sem, e0, e1, e2]) rfl ⟨readAns_bad Hx.out (by decide), HBe.out⟩
      · have hkn : k = r.length := by omega
        subst hkn
        have hki : ¬ ((4 + r.length : Nat) : Int) < (l.length : Int) - 2 := by omega
        have HS1 := hide (HS.out)
        have hl2 : (2 : Int) ≤ (l.length : Int) := by omega
        have i4 : ((l.length - 2 : Nat) : Int) = (l.length : Int) - 2 := by omega
        have i5 : ((l.length - 1 : Nat) : Int) = (l.length : Int) - 1 := by omega
        have hX : X < 256 := hbx
        have hY : Y < 256 := hby
        have hex2 : s.extract 0 ((l.length : Int) - 2).toNat = sb := by rw [← hex]; congr 1; omega
        have g4' : ∀ h, (s[((l.length : Int) - 2).toNat]'h).toNat = X := fun h => by
          have e : ((l.length : Int) - 2).toNat = l.length - 2 := by omega
          simp only [e]; exact g4 (by omega)
        have g5' : ∀ h, (s[((l.length : Int) - 1).toNat]'h).toNat = Y := fun h => by
          have e : ((l.length : Int) - 1).toNat = l.length - 1 := by omega
          simp only [e]; exact g5 (by omega)
        have j4 : 0 ≤ (l.length : Int) - 2 := by omega
        have j5 : 0 ≤ (l.length : Int) - 1 := by omega
        have j6 : (l.length : Int) - 2 < (s.size : Int) := by omega
        have j7 : (l.length : Int) - 1 < (s.size : Int) := by omega
        have j8 : (l.length : Int) - 2 ≤ (s.size : Int) := by omega
        obtain ⟨p, hp, hpk, hpi, hpr⟩ := HI.out.pkt (by omega)
        have c0 := hp.cell 0
        have c1 := hp.cell 1
        have c2 := hp.cell 2
        simp [PktM.cells] at c0 c1 c2
        by_cases hsm : sm = 256 * X + Y
        · have hne : ((sm : Int) != 256 * (X : Int) + (Y : Int)) = false := by simp; omega
          have Hx : Hid (readErr l = 0) := hide (by rw [Hsp.out, if_pos ⟨Hall.out, hsm⟩])
          have b3 := fun q => (show Blk (wr.drewN q) w.heap.size #[.int .i64 0, .int .i64 0, .slice none 0 0] 76 from hres).set3 (.int .i64 p.F) (.int .i64 p.T) (.slice p.ra p.n p.rc)
          have e0 := fun q => (b3 q).cell 0
          have e1 := fun q => (b3 q).cell 1
          have e2 := fun q => (b3 q).cell 2
          unfold YtjhkadffaephmabGreat.set3 at e0 e1 e2
          simp at e0 e1 e2
          have hsame : p.pkt.same (packet l) := by
            have h1 := Hpk.out
            rw [hpk]
            exact ⟨h1.1.symm, h1.2.1.symm, h1.2.2.1.symm, fun i hi => (h1.2.2.2 i (by have := h1.2.2.1; simp only at this hi; omega)).symm⟩
          have HA : Hid (ReadAns l w.heap.size (.returned (.tuple #[.agg #[.int .i64 p.F, .int .i64 p.T, .slice p.ra p.n p.rc], .int .i64 0])) (set3 wr w.heap.size (.int .i64 p.F) (.int .i64 p.T) (.slice p.ra p.n p.rc))) :=
            hide ⟨p, by rw [Hx.out]; rfl, by unfold readOf; rw [if_pos Hx.out]; exact hsame, hpi.set3 hpr _ _ _, fun h0 => Nat.le_of_lt (hpr h0)⟩
          have HBe := hide (below3 HI.out.below (Nat.le_refl _) (.int .i64 p.F) (.int .i64 p.T) (.slice p.ra p.n p.rc))
          clear hsame hpk hpi hpr hp HI Hall hres hlr b3 hsm HI0
          go_wp2_with fail
          go_quiet ((go_at_call 66; refine Calls.quiet_of (HS.out _)))
          go_wp2
          exact bodyPost_ret (v := .tuple #[.agg #[.int .i64 p.F, .int .i64 p.T, .slice p.ra p.n p.rc], .int .i64 0]) (by simp [results, Tryz.results34, go_sem, e0, e1, e2]) rfl ⟨HA.out.drewN _, below_drewN HBe.out _⟩
        · have hne : ((sm : Int) != 256 * (X : Int) + (Y : Int)) = true := by simp; omega
          have Hx : Hid (readErr l = 1) := hide (by rw [Hsp.out, if_neg (fun h => hsm h.2)])
          have b3 := fun q => (show Blk (wr.drewN q) w.heap.size #[.int .i64 0, .int .i64 0, .slice none 0 0] 76 from hres).set3 (.int .i64 0) (.int .i64 0) (.slice none 0 0)
          have e0 := fun q => (b3 q).cell 0
          have e1 := fun q => (b3 q).cell 1
          have e2 := fun q => (b3 q).cell 2
          unfold YtjhkadffaephmabGreat.set3 at e0 e1 e2
          simp at e0 e1 e2
          have HBe := hide (below3 HI.out.below (Nat.le_refl _) (.int .i64 0) (.int .i64 0) (.slice none 0 0))
          clear hpk hpi hpr hp HI Hall hres hlr b3 hsm HI0
          go_wp2_with fail
          go_quiet ((go_at_call 66; refine Calls.quiet_of (HS.out _)))
          go_wp2
          exact bodyPost_ret (v := .tuple #[.agg #[.int .i64 0, .int .i64 0, .slice none 0 0], .int .i64 1]) (by simp [results, Tryz.results34, go_sem, e0, e1, e2]) rfl ⟨readAns_bad Hx.out (by decide), below_drewN HBe.out _⟩

end Go.Proofs.YtjhkadffaephmabGreat

/-
 signpostref.StepOf: mail comes.
-/
namespace Go.Proofs.YtjhkadffaephmabGreat
set_option maxRecDepth 100000
open Go.RowKit

set_option maxHeartbeats 16000000 in
theorem stepOf_deliver (n : NetM) (x : EngM) (v : EvM) (N : Nat) (w : World) (h : n.In w.heap.size w) (hx : x.In w.heap.size w) (hv : v.In w.heap.size w) (hN : n.nodes = N) (hR : x.Right n.net N) (hcap : x.bag.bn ≤ x.bag.bc) (k : Nat) (hk : v.loc = (k : Int)) (hkd : v.kind = 2) (hkb : k < x.bag.bn) :
  Calls Tryz.prog 10 #[n.val, x.val, v.val] w fun r w' => StepRef n.net x v.ev w r w' := by
 obtain ⟨hN0, hN6, hNN, hnn⟩ := nodes_six hR.check hN
 have hnn' : n.net.nodes = n.nodes := rfl
 have hlen : x.eng.bag.length = x.bag.bn := by show ((List.range x.bag.bn).map x.bag.M).length = _; simp
 have hbn := hR.bn
 have Herr : Hid (x.eng.stepErr n.net v.ev = 0) := hide (Eng.err_deliver (v := v.ev) hkd (show 0 ≤ v.loc by omega) (show v.loc < (x.eng.bag.length : Int) by omega))
 obtain ⟨m, hm⟩ : ∃ m, m = x.bag.M k := ⟨_, rfl⟩
 have hget : x.eng.bag.getD k noMail = m := by rw [hm]; exact mails_at x.bag.M x.bag.bn k hkb
 have Hstep : Hid (x.eng.step n.net v.ev = (x.eng.without k).take n.net m) := hide (by rw [Eng.does_deliver (v := v.ev) hkd]; show x.eng.deliver n.net v.loc.toNat = _; rw [hk, ← hget]; rfl)
 have hfm := hR.fit.mail m (by rw [← hget]; exact getD_mem (by rw [hlen]; exact hkb))
 have HW := hide (fun W (hb : Below w.heap.size w W) => refWithout_any x N k W (hx.grown hb) hR.gn hN0 hN6 hR.bn hR.rl hR.tl hR.ll hkb hcap)
 obtain ⟨tn, htn⟩ : ∃ tn : Nat, m.T = tn := ⟨m.T.toNat, by omega⟩
 obtain ⟨fn, hfn⟩ : ∃ fn : Nat, m.F = fn := ⟨m.F.toNat, by omega⟩
 have htN : tn < N := by omega
 have hfN : fn < N := by omega
 have HLk := hide (fun (m : EngM) W (hb : Below w.heap.size w W) (hm : m.In W.heap.size W) (hr : m.Right n.net N) => refLooked_any n m N tn W (h.grown hb) hm hN hr htN)
 have HRd := hide (fun W => readOf_any m.b W (by unfold maxLen; omega))
 have HEd := hide (fun (i j : Int) (W : World) (hb : Below w.heap.size w W) => edgeOf_any n i j W (h.grown hb))
 have hs2 : 2 ≤ n.a.size := (Net.good_of_check hR.check).law.good.lo
 have hs24 : n.a.size ≤ 24 := (Net.good_of_check hR.check).law.good.hi
 have HRw := hide (fun a l c b o f (W : World) hi hb => rowOf_any n a l c b o f W hi hb hs2 hs24)
 have hncE : n.cells = #[.int .i64 n.a.size, .slice n.a.B.ga n.a.B.t.len n.a.B.cap, .slice n.a.E.ga n.a.E.t.len n.a.E.cap, .int .i64 N, .slice n.la n.ln n.lc] := by simp only [NetM.cells, Mat.val, hN]
 simp only [EngM.val, EngM.cells, NetM.val, hncE] at HW HLk HEd HRw
 have Hba : Hid (x.bag.ba = some ⟨x.bag.bb, x.bag.bo, none⟩) := hide (hx.bag.ba (by omega))
 have Hm := hide hm
 have Htn := hide htn
 have Hfn := hide hfn
 have hki : (k : Int) < (x.bag.bn : Int) := by omega
 clear hncE hget hfm hm htn hfn
 obtain ⟨W0, hW0⟩ : ∃ W0, W0 = (((w.alloc (.cells n.cells 27)).alloc (.cells x.cells 31)).alloc (.cells v.cells 34)).alloc (.cells #[.slice none 0 0, .slice none 0 0] 31) := ⟨_, rfl⟩
 have hs0 : SB w n x v W0 := by rw [hW0]; exact SB.start w n x v
 have hz0 : W0.heap.size = w.heap.size + 4 := by rw [hW0]; simp
 have hnc : n.cells = #[.int .i64 n.a.size, .slice n.a.B.ga n.a.B.t.len n.a.B.cap, .slice n.a.E.ga n.a.E.t.len n.a.E.cap, .int .i64 N, .slice n.la n.ln n.lc] := by simp only [NetM.cells, Mat.val, hN]
 have hvc : v.cells = #[.int .i64 2, .int .i64 (k : Int), .int .i64 v.b, .int .i64 v.c, .slice v.ra v.rl v.rc] := by rw [← hkd, ← hk]; rfl
 have hxc : x.cells = #[.slice x.rs.ga x.rs.gn x.rs.gc, .slice x.bag.ba x.bag.bn x.bag.bc] := rfl
 have H := hide h
 have Hx := hide hx
 have Hv := hide hv
 have HR := hide hR
 have Hs0 := hide hs0
 have Hz0 := hide hz0
 have Hnc := hide hnc
 have Hvc := hide hvc
 have Hxc := hide hxc
 have HN := hide hN
 have Hlen := hide hlen
 have Hnn := hide hnn
 have HNN := hide hNN
 have Hkd := hide hkd
 have Hk := hide hk
 have HIs := hide (fun (i : Int) (W : World) => isNode_any n i W (by omega) (by omega))
 simp only [NetM.val, hnc, hN] at HIs
 rw [hnc, hvc, hxc] at hW0
 simp only [NetM.val, EngM.val, EvM.val, hnc, hvc, hxc]
 have HW0 := hide hW0
 have v0 := Hs0.out.bv.cell 0
 have v1 := Hs0.out.bv.cell 1
 have v2 := Hs0.out.bv.cell 2
 have v3 := Hs0.out.bv.cell 3
 have v4 := Hs0.out.bv.cell 4
 rw [Hvc.out] at v0 v1 v2 v3 v4
 simp at v0 v1 v2 v3 v4
 have n0 := Hs0.out.bn.cell 0
 have n1 := Hs0.out.bn.cell 1
 have n2 := Hs0.out.bn.cell 2
 have n3 := Hs0.out.bn.cell 3
 have n4 := Hs0.out.bn.cell 4
 rw [Hnc.out] at n0 n1 n2 n3 n4
 simp at n0 n1 n2 n3 n4
 have x0 := Hs0.out.bx.cell 0
 have x1 := Hs0.out.bx.cell 1
 rw [Hxc.out] at x0 x1
 simp at x0 x1
 clear h hx hv hR hs0 hz0 hnc hvc hxc hN hW0 hlen hnn hNN hkd hnn' hk 
 go_enter Tryz.func10, Tryz.ntmps10
 go_wp2_with fail
 rw [← HW0.out]
 go_at_call 24
 refine (between_any _ _ _ _).mono ?_
 rintro e w1 ⟨rfl, hw1⟩
 rw [hw1]
 clear hw1
 have hb1 : (decide ((1 : Int) ≤ 2) && decide ((2 : Int) ≤ 7)) = true := by decide
 rw [hb1]
 clear hb1
 go_wp2_with fail
 go_at_call 24
 refine (between_any _ _ _ _).mono ?_
 rintro e w1 ⟨rfl, hw1⟩
 rw [hw1]
 clear hw1
 have hb2 : (decide ((2 : Int) ≤ 2) && decide ((2 : Int) ≤ 5)) = true := by decide
 rw [hb2]
 clear hb2
 go_wp2_with fail
 go_at_call 24
 refine (between_any _ _ _ _).mono ?_
 rintro e w1 ⟨rfl, hw1⟩
 rw [hw1]
 clear hw1
 have hb3 : (decide (0 ≤ (k : Int)) && decide ((k : Int) ≤ (x.bag.bn : Int) - 1)) = true := by simp; omega
 rw [hb3]
 clear hb3
 have c0 := (Hx.out.below Hs0.out.below (Nat.le_refl _)).bag.c0 k hkb
 have c1 := (Hx.out.below Hs0.out.below (Nat.le_refl _)).bag.c1 k hkb
 have c2 := (Hx.out.below Hs0.out.below (Nat.le_refl _)).bag.c2 k hkb
 rw [← Hm.out] at c0 c1 c2
 rw [Hba.out] at x1
 obtain ⟨q14, hq14⟩ : ∃ q14, q14 = W0.heap.size := ⟨_, rfl⟩
 obtain ⟨W1, hW1⟩ : ∃ W1, W1 = W0.alloc (.cells #[.int .i64 m.F, .int .i64 m.T, .string ⟨m.b.toArray⟩] 69) := ⟨_, rfl⟩
 have hb1 : Below W0.heap.size W0 W1 := by rw [hW1]; exact (Below.refl _ W0).alloc (Nat.le_refl _) _
 have Hs1 := hide (Hs0.out.keep hb1)
 have Hm1 : Hid (Blk W1 q14 #[.int .i64 m.F, .int .i64 m.T, .string ⟨m.b.toArray⟩] 69) := hide (by rw [hW1]; exact Blk.new' hq14)
 have HC := hide (HW.out W1 Hs1.out.below)
 have xa : ∀ o, (W0.alloc o).cell? ⟨w.heap.size + 1, 0, none⟩ = some (.slice x.rs.ga x.rs.gn x.rs.gc) := fun o => by have := (Hs0.out.bx.alloc o).cell 0; rw [Hxc.out] at this; simpa using this
 have xb : ∀ o, (W0.alloc o).cell? ⟨w.heap.size + 1, 1, none⟩ = some (.slice x.bag.ba x.bag.bn x.bag.bc) := fun o => by have := (Hs0.out.bx.alloc o).cell 1; rw [Hxc.out] at this; simpa using this
 have va : ∀ o, (W0.alloc o).cell? ⟨w.heap.size + 2, 1, none⟩ = some (.int .i64 (k : Int)) := fun o => by have := (Hs0.out.bv.alloc o).cell 1; rw [Hvc.out] at this; simpa using this
 have HW1 := hide hW1
 have Hq14 := hide hq14
 have Hz1 : Hid (w.heap.size + 4 ≤ W1.heap.size) := hide (by have := hb1.size; have := Hz0.out; omega)
 have Hq14lt : Hid (q14 < W1.heap.size) := hide Hm1.out.lt
 clear hb1 hW1 hq14 HW
 rw [HW1.out] at HC
 go_wp2_with fail
 go_at_call 33
 refine HC.out.mono ?_
 rw [← HW1.out, ← Hq14.out]
 rintro r W2 ⟨⟨P0, Bv, y, hL2, rfl⟩, hb2⟩
 obtain ⟨ba, bc, hBv⟩ := own_form hL2.live.bag
 obtain ⟨bl, hbl⟩ : ∃ bl, bl = (x.eng.without k).bag.length := ⟨_, rfl⟩
 rw [← hbl] at hBv
 subst hBv
 clear hbl
 obtain ⟨P, hP⟩ : ∃ P, P = W2.heap.size := ⟨_, rfl⟩
 obtain ⟨W3, hW3⟩ : ∃ W3, W3 = W2.alloc (.cells #[.slice (some ⟨y.G, 0, none⟩) N y.gc, .slice ba bl bc] 31) := ⟨_, rfl⟩
 have hb23 : Below W2.heap.size W2 W3 := by rw [hW3]; exact (Below.refl _ W2).alloc (Nat.le_refl _) _
 have hb13 := hb2.trans (hb23.mono hb2.size)
 have hL3 := hL2.rebox
 rw [← hW3, ← hP] at hL3
 have HL3 := hide hL3.live
 have Hs3 := hide (Hs1.out.keep hb13)
 have Hm3 := hide (Hm1.out.below hb13 Hm1.out.lt)
 have HRd3 := hide (HRd.out W3)
 have m2 := Hm3.out.cell 2
 simp at m2
 rw [hW3] at HRd3 m2
 have HW3 := hide hW3
 have HP := hide hP
 clear hL2 hb2 hb23 hb13 hL3 hW3 hP HC c0 c1 c2 xa xb va Hm1 Hs1 HRd  v0 v1 v2 v3 v4 n0 n1 n2 n3 n4 x0 x1
 go_wp2_with fail
 go_at_call 34
 refine HRd3.out.mono ?_
 rw [← HW3.out, ← HP.out]
 rintro r W4 ⟨⟨p, rfl, hsame, hin, hlo⟩, hb4⟩
 obtain ⟨q16, hq16⟩ : ∃ q16, q16 = W4.heap.size := ⟨_, rfl⟩
 obtain ⟨W5, hW5⟩ : ∃ W5, W5 = W4.alloc (.cells #[.int .i64 p.F, .int .i64 p.T, .slice p.ra p.n p.rc] 76) := ⟨_, rfl⟩
 have hb5 : Below W3.heap.size W3 W5 := by rw [hW5]; exact hb4.alloc hb4.size _
 have HL5 := hide (HL3.out.below hb5)
 have Hs5 := hide (Hs3.out.keep hb5)
 have Hm5 := hide (Hm3.out.below hb5 Hm3.out.lt)
 rw [Hfn.out, Htn.out] at Hm5
 have Hp5 : Hid (Blk W5 q16 #[.int .i64 p.F, .int .i64 p.T, .slice p.ra p.n p.rc] 76) := hide (by rw [hW5]; exact Blk.new' hq16)
 have Hin5 : Hid (p.In W5.heap.size W5) := hide (by rw [hW5]; exact hin.grown ((Below.refl _ W4).alloc (Nat.le_refl _) _))
 have Hrb : Hid (0 < p.n → W3.heap.size ≤ p.rb) := hide hlo
 have Hsame := hide hsame
 have HX : Hid (∀ W, Below W5.heap.size W5 W → ¬ n.net.heeds m → StepRef n.net x v.ev w (.returned (.tuple #[.agg #[.slice (some ⟨y.G, 0, none⟩) N y.gc, .slice ba bl bc], .int .i64 0])) ((W.setCell ⟨w.heap.size + 3, 0, none⟩ (.slice (some ⟨y.G, 0, none⟩) N y.gc)).setCell ⟨w.heap.size + 3, 1, none⟩ (.slice ba bl bc))) := hide (fun W hb hn => step_fin (HL5.out.below hb) (Hs5.out.keep hb) (by have := Hz1.out; omega) HR.out.check HN.out (HR.out.fit.without k) (by rw [Hstep.out]; unfold Eng.take; rw [if_neg hn]) Herr.out)
 have HE : Hid (∀ W, Below W5.heap.size W5 W → W.cell? ⟨P, 0, none⟩ = some (.slice (some ⟨y.G, 0, none⟩) N y.gc) ∧ W.cell? ⟨P, 1, none⟩ = some (.slice ba bl bc) ∧ W.cell? ⟨w.heap.size + 3, 0, none⟩ = some (.slice none 0 0) ∧ W.cell? ⟨w.heap.size + 3, 1, none⟩ = some (.slice none 0 0) ∧ (∀ j, W.frozen? ⟨w.heap.size + 3, j, none⟩ = false) ∧ ((W.setCell ⟨w.heap.size + 3, 0, none⟩ (.slice (some ⟨y.G, 0, none⟩) N y.gc)).setCell ⟨w.heap.size + 3, 1, none⟩ (.slice ba bl bc)).cell? ⟨w.heap.size + 3, 0, none⟩ = some (.slice (some ⟨y.G, 0, none⟩) N y.gc) ∧ ((W.setCell ⟨w.heap.size + 3, 0, none⟩ (.slice (some ⟨y.G, 0, none⟩) N y.gc)).setCell ⟨w.heap.size + 3, 1, none⟩ (.slice ba bl bc)).cell? ⟨w.heap.size + 3, 1, none⟩ = some (.slice ba bl bc)) := hide (fun W hb => by
  have h1 := (HL5.out.below hb).head
  have h2 := (Hs5.out.keep hb).br
  have h3 := (h2.set 0 (.slice (some ⟨y.G, 0, none⟩) N y.gc)).set 1 (.slice ba bl bc)
  refine ⟨?_, ?_, ?_, ?_, h2.frozen, ?_, ?_⟩
  ·have := h1.cell 0; simpa using this
  ·have := h1.cell 1; simpa using this
  ·have := h2.cell 0; simpa using this
  ·have := h2.cell 1; simpa using this
  ·have := h3.cell 0; simpa using this
  ·have := h3.cell 1; simpa using this)
 have HW5 := hide hW5
 have Hq16 := hide hq16
 have hsm : p.n ≤ 17592186044416 := hin.small
 have hb35 := hide hb5
 have n0 := Hs5.out.bn.cell 0
 have n1 := Hs5.out.bn.cell 1
 have n2 := Hs5.out.bn.cell 2
 have n3 := Hs5.out.bn.cell 3
 have n4 := Hs5.out.bn.cell 4
 rw [Hnc.out] at n0 n1 n2 n3 n4
 simp at n0 n1 n2 n3 n4
 have m0 := Hm5.out.cell 0
 have m1 := Hm5.out.cell 1
 simp at m0 m1
 rw [hW5] at m0 m1 n0 n1 n2 n3 n4
 clear hsame hin hlo hb4 hb5 hW5 hq16 HRd3 Hm3 m2
 simp only [PktM.val, PktM.cells]
 by_cases k1 : readErr m.b = 0
 rotate_left
 ·have k1' : (readErr m.b == 0) = false := by simpa using k1
  have HP9 := hide (HX.out W5 (Below.refl _ _) (fun hh => k1 hh.1))
  obtain ⟨p0, p1, r0, r1, fr, e0, e1⟩ := HE.out W5 (Below.refl _ _)
  rw [HW5.out] at HP9 p0 p1 r0 r1 fr e0 e1
  have fr0 := fr 0
  have fr1 := fr 1
  clear fr HX HE
  generalize readErr m.b = er at *
  go_wp2
  exact bodyPost_ret (v := .tuple #[.agg #[.slice (some ⟨y.G, 0, none⟩) N y.gc, .slice ba bl bc], .int .i64 0]) (by simp [results, Tryz.results10, go_sem, e0, e1]) rfl HP9.out
 have hS : p.pkt.same (packet m.b) := by have := Hsame.out; unfold readOf at this; rwa [if_pos k1] at this
 have HS' := hide hS
 have HF' : Hid (p.F = (packet m.b).F) := hide hS.1
 have HT' : Hid (p.T = (packet m.b).T) := hide hS.2.1
 have Hn' : Hid (p.n = (packet m.b).n) := hide hS.2.2.1
 clear hS
 rw [k1]
 by_cases k2 : p.F = (fn : Int)
 rotate_left
 ·have HP9 := hide (HX.out W5 (Below.refl _ _) (fun hh => k2 (by rw [HF'.out, hh.2.1, Hfn.out])))
  have k2' : (p.F == (fn : Int)) = false := by simpa using k2
  obtain ⟨p0, p1, r0, r1, fr, e0, e1⟩ := HE.out W5 (Below.refl _ _)
  rw [HW5.out] at HP9 p0 p1 r0 r1 fr e0 e1
  have fr0 := fr 0
  have fr1 := fr 1
  clear fr HX HE
  go_wp2
  exact bodyPost_ret (v := .tuple #[.agg #[.slice (some ⟨y.G, 0, none⟩) N y.gc, .slice ba bl bc], .int .i64 0]) (by simp [results, Tryz.results10, go_sem, e0, e1]) rfl HP9.out
 have HFf := hide k2
 rw [k2] at HW5 Hp5 m0 m1 n0 n1 n2 n3 n4 ⊢
 clear k2
 by_cases k3 : p.T = (tn : Int)
 rotate_left
 ·have HP9 := hide (HX.out W5 (Below.refl _ _) (fun hh => k3 (by rw [HT'.out, hh.2.2.1, Htn.out])))
  have k3' : (p.T == (tn : Int)) = false := by simpa using k3
  obtain ⟨p0, p1, r0, r1, fr, e0, e1⟩ := HE.out W5 (Below.refl _ _)
  rw [HW5.out] at HP9 p0 p1 r0 r1 fr e0 e1
  have fr0 := fr 0
  have fr1 := fr 1
  clear fr HX HE
  go_wp2
  exact bodyPost_ret (v := .tuple #[.agg #[.slice (some ⟨y.G, 0, none⟩) N y.gc, .slice ba bl bc], .int .i64 0]) (by simp [results, Tryz.results10, go_sem, e0, e1]) rfl HP9.out
 have HTt := hide k3
 rw [k3] at HW5 Hp5 m0 m1 n0 n1 n2 n3 n4 ⊢
 clear k3
 have HC := hide (HRw.out p.ra p.n p.rc p.rb p.ro p.R W5 Hin5.out.ints Hin5.out.lt)
 rw [HW5.out] at HC
 go_wp2_with fail
 go_at_call 26
 refine HC.out.mono ?_
 rw [← HW5.out, ← Hq16.out]
 rintro r W6 ⟨rfl, hb6⟩
 have Hs6 := hide (Hs5.out.keep hb6)
 have Hm6 := hide (Hm5.out.below hb6 Hm5.out.lt)
 have Hrow : Hid (n.net.row p.n p.R = 0 ↔ n.net.row (packet m.b).n (packet m.b).R = 0) := hide (by
  have h4 := Hn'.out
  have h5 := HS'.out.2.2.2
  rw [Net.row_zero, Net.row_zero, ← h4]
  constructor
  ·intro h
   exact ⟨h.1, fun j hj => by rw [← h5 j hj]; exact h.2 j hj⟩
  ·intro h
   exact ⟨h.1, fun j hj => by have := h.2 j hj; rw [← h5 j hj] at this; exact this⟩)
 have Hb6 := hide hb6
 clear m0 m1 n0 n1 n2 n3 n4 HC hb6
 have n0 := Hs6.out.bn.cell 0
 have n1 := Hs6.out.bn.cell 1
 have n2 := Hs6.out.bn.cell 2
 have n3 := Hs6.out.bn.cell 3
 have n4 := Hs6.out.bn.cell 4
 rw [Hnc.out] at n0 n1 n2 n3 n4
 simp at n0 n1 n2 n3 n4
 have m0 := Hm6.out.cell 0
 have m1 := Hm6.out.cell 1
 simp at m0 m1
 by_cases k4 : n.net.row p.n p.R = 0
 rotate_left
 ·have HP9 := hide (HX.out W6 Hb6.out (fun hh => k4 (Hrow.out.2 hh.2.2.2.1)))
  have k4' : (n.net.row p.n p.R == 0) = false := by simpa using k4
  obtain ⟨p0, p1, r0, r1, fr, e0, e1⟩ := HE.out W6 Hb6.out
  have fr0 := fr 0
  have fr1 := fr 1
  clear fr HX HE
  generalize n.net.row p.n p.R = er at *
  go_wp2
  exact bodyPost_ret (v := .tuple #[.agg #[.slice (some ⟨y.G, 0, none⟩) N y.gc, .slice ba bl bc], .int .i64 0]) (by simp [results, Tryz.results10, go_sem, e0, e1]) rfl HP9.out
 have HpN : Hid (p.n = N) := hide (by have h1 := (Net.row_zero.1 k4).1; have h2 := HN.out; have h3 : n.net.nodes = n.nodes := rfl; omega)
 have Hr4 := hide k4
 rw [k4]
 clear k4
 have HC := hide (HEd.out tn fn W6 Hs6.out.below)
 go_wp2_with fail
 go_at_call 30
 refine HC.out.mono ?_
 rintro r W7 ⟨rfl, hW7⟩
 have hb67 : Below W6.heap.size W6 W7 := by rw [hW7]; exact (Below.refl _ W6).alloc (Nat.le_refl _) _
 have hb7 : Below W5.heap.size W5 W7 := Hb6.out.trans (hb67.mono Hb6.out.size)
 have Hb7 := hide hb7
 clear m0 m1 n0 n1 n2 n3 n4 HC hb67 hb7 hW7
 by_cases k6 : 0 ≤ n.net.edge tn fn
 rotate_left
 ·have HP9 := hide (HX.out W7 Hb7.out (fun hh => k6 (by have := hh.2.2.2.2; rwa [Htn.out, Hfn.out] at this)))
  obtain ⟨p0, p1, r0, r1, fr, e0, e1⟩ := HE.out W7 Hb7.out
  have fr0 := fr 0
  have fr1 := fr 1
  clear fr HX HE
  generalize n.net.edge tn fn = ed at *
  go_wp2
  exact bodyPost_ret (v := .tuple #[.agg #[.slice (some ⟨y.G, 0, none⟩) N y.gc, .slice ba bl bc], .int .i64 0]) (by simp [results, Tryz.results10, go_sem, e0, e1]) rfl HP9.out
 have Hheed : Hid (n.net.heeds m) := hide ⟨k1, by rw [← HF'.out, Hfn.out]; exact HFf.out, by rw [← HT'.out, Htn.out]; exact HTt.out, Hrow.out.1 Hr4.out, by rw [Htn.out, Hfn.out]; exact k6⟩
 have Hst : Hid (x.eng.step n.net v.ev = Eng.look n.net ((x.eng.without k).tell tn fn (packet m.b).R) tn) := hide (by rw [Hstep.out]; unfold Eng.take; rw [if_pos Hheed.out, show m.T.toNat = tn by rw [Htn.out]; rfl, show m.F.toNat = fn by rw [Hfn.out]; rfl])
 clear HX HE k1
 generalize n.net.edge tn fn = ed at *
 go_wp2_with fail
 have hb7d : Below W5.heap.size W5 W7.drew := ⟨Hb7.out.os, Hb7.out.tape, Hb7.out.output, Hb7.out.size, Hb7.out.block⟩
 have hl7 := HL5.out.below hb7d
 have hin7 := Hin5.out.below hb7d (Nat.le_refl _)
 have hpn := HpN.out
 have hlo3 : W3.heap.size ≤ p.rb := Hrb.out (by omega)
 have hoff7 : y.Off P N (.slice ba bl bc) W7.drew p.rb := ⟨by have := HL3.out.head.lt; omega, by have := HL3.out.rtrs.lt; omega, fun k hk => by have := (HL3.out.tolds k hk).lt; omega, fun hv => by have := (HL3.out.bag.lt _ hv).2; omega, Nat.lt_of_lt_of_le (hin7.lt (by omega)) hb7d.size, by have := HL3.out.ylo; have := HL3.out.head.lt; omega⟩
 have hset := hl7.setTold htN hfN true (packet m.b).R p.ra p.rc p.rb p.ro (fun _ => ⟨hin7.ints.addr (by omega), hoff7, fun j hj => by rw [hin7.ints.cell j (by omega)]; exact congrArg (fun z => some (Value.int .i64 z)) (HS'.out.2.2.2 j (by show j < p.n; omega))⟩)
 simp only [if_true] at hset
 obtain ⟨W8, hW8⟩ : ∃ W8, W8 = W7.drew.setCell ⟨y.Tb tn, fn, none⟩ (.slice p.ra N p.rc) := ⟨_, rfl⟩
 rw [← hW8] at hset
 obtain ⟨y8, hset, hyG, hyc⟩ : ∃ y8 : Lay, Live W1.heap.size P N ((x.eng.without k).tell tn fn (packet m.b).R) (.slice ba bl bc) y8 W8 ∧ y8.G = y.G ∧ y8.gc = y.gc := ⟨_, hset, rfl, rfl⟩
 have hfit8 := (HR.out.fit.without k).tell (i := tn) (k := fn) (f := (packet m.b).R) (fun j hj => by
  have := (Net.row_zero.1 Hheed.out.2.2.2.1).2 j (by have := Hn'.out; have := HNN.out; omega)
  exact this)
 have hTlo := HL5.out.lt tn htN
 have hPlo := HL5.out.lp
 have Hs7 := hide (Hs5.out.keep hb7d)
 have Hm7 := hide (Hm5.out.below hb7d Hm5.out.lt)
 have Hs8 : Hid (SB w n x v W8) := hide (by rw [hW8]; exact Hs7.out.set (by have := Hz1.out; omega) _ _)
 have Hm8 : Hid (Blk W8 q14 #[.int .i64 (fn : Int), .int .i64 (tn : Int), .string ⟨m.b.toArray⟩] 69) := hide (by rw [hW8]; exact Hm7.out.other (by have := Hq14lt.out; omega) _ _)
 have hz8 : W5.heap.size ≤ W8.heap.size := by rw [hW8]; simpa using hb7d.size
 obtain ⟨m8, hm1, hm2, hm3, hm4, _⟩ := hset.right HR.out.check HN.out hfit8
 have HC8 := hide (HLk.out m8 W8 Hs8.out.below hm2 hm4)
 have hmv : #[Value.slice m8.rs.ga m8.rs.gn m8.rs.gc, .slice m8.bag.ba m8.bag.bn m8.bag.bc] = #[.slice (some ⟨y.G, 0, none⟩) N y.gc, .slice ba bl bc] := by rw [← hyG, ← hyc, ← hm1]; rfl
 rw [hmv, hm3] at HC8
 have Hhd8 := hide hset.head
 rw [hyG, hyc] at Hhd8
 have p0 := Hhd8.out.cell 0
 have p1 := Hhd8.out.cell 1
 simp at p0 p1
 have q0 := hl7.head.cell 0
 have q1 := hl7.rtrs.cell (tn * 2 + 1)
 rw [hl7.r1 tn htN] at q1
 have q2 := (hl7.tolds tn htN).cell fn
 rw [hl7.t0 tn htN fn hfN] at q2
 have fq2 := (hl7.tolds tn htN).frozen fn
 simp at q0
 have Hp7 := hide (Hp5.out.below hb7d Hp5.out.lt)
 rw [hpn] at Hp7
 have z0 := Hm7.out.cell 0
 have z1 := Hm7.out.cell 1
 have z2 := Hp7.out.cell 2
 simp at z0 z1 z2
 have Q0 := hide q0
 have Q1 := hide q1
 have Q2 := hide q2
 have Fq2 := hide fq2
 have Z0 := hide z0
 have Z1 := hide z1
 have Z2 := hide z2
 have HW8 := hide hW8
 have Hfit8 := hide hfit8
 have Hz8 : Hid (w.heap.size + 4 ≤ W8.heap.size ∧ w.heap.size + 3 < P ∧ P < W8.heap.size) := hide ⟨by have := HL5.out.head.lt; have := Hz1.out; omega, by have := Hz1.out; omega, by have := HL5.out.head.lt; omega⟩
 have n0 := Hs8.out.bn.cell 0
 have n1 := Hs8.out.bn.cell 1
 have n2 := Hs8.out.bn.cell 2
 have n3 := Hs8.out.bn.cell 3
 have n4 := Hs8.out.bn.cell 4
 rw [Hnc.out] at n0 n1 n2 n3 n4
 simp at n0 n1 n2 n3 n4
 have y1 := Hm8.out.cell 1
 simp at y1
 have hti : (tn : Int) < (N : Int) := by omega
 have hfi : (fn : Int) < (N : Int) := by omega
 have HtN := hide htN
 clear hb7d hl7 hin7 hpn hlo3 hoff7 hset hW8 hyG hyc hfit8 hTlo hPlo hz8 hm1 hm2 hm3 hm4 hmv q0 q1 q2 fq2 z0 z1 z2 HW3 HP HW5 HW1
 refine wp_region_last 12 _ (fun W => W = W7.drew) (valsE [.pointer (some ⟨P, 0, none⟩), .slice (some ⟨y.G, 0, none⟩) N y.gc, .pointer (some ⟨q14, 1, none⟩), .int .i64 (tn : Int), .pointer (some ⟨y.G, tn * 2, none⟩), .pointer (some ⟨y.G, tn * 2 + 1, none⟩), .slice (some ⟨y.Tb tn, 0, none⟩) N (y.Tc tn), .pointer (some ⟨q14, 0, none⟩), .int .i64 (fn : Int), .pointer (some ⟨q16, 2, none⟩), .slice p.ra N p.rc, .pointer (some ⟨y.Tb tn, fn, none⟩)]) (fun _ W => W = W8) (fun _ _ _ => True) (by kernel_rfl) (by kernel_rfl) (by kernel_rfl) (by kernel_rfl) (by kernel_rfl) rfl rfl ⟨?_, ?_, ?_, ?_, ?_, ?_, ?_, ?_, ?_, ?_, ?_, ?_, trivial⟩ ?_ trivial ?_
 rotate_right
 ·intro t W hG _
  simp only [fill, Act.put, List.setIfInBounds_toArray, List.set_cons_zero, List.set_cons_succ]
  rw [hG]
  clear hG
  go_wp2_with fail
  go_at_call 31
  refine HC8.out.mono ?_
  rintro r W9 ⟨⟨P9, Bv9, y9, hL9, rfl⟩, hb9⟩
  obtain ⟨ba9, bc9, hBv9⟩ := own_form hL9.live.bag
  obtain ⟨bl9, hbl9⟩ : ∃ bl9, bl9 = (Eng.look n.net ((x.eng.without k).tell tn fn (packet m.b).R) tn).bag.length := ⟨_, rfl⟩
  rw [← hbl9] at hBv9
  subst hBv9
  clear hbl9
  have hz8 := Hz8.out
  have hh9 := Hhd8.out.below hb9 Hhd8.out.lt
  obtain ⟨W10, hW10⟩ : ∃ W10, W10 = (W9.setCell ⟨P, 0, none⟩ (.slice (some ⟨y9.G, 0, none⟩) N y9.gc)).setCell ⟨P, 1, none⟩ (.slice ba9 bl9 bc9) := ⟨_, rfl⟩
  have hL10 : Live W8.heap.size P9 N (Eng.look n.net ((x.eng.without k).tell tn fn (packet m.b).R) tn) (.slice ba9 bl9 bc9) y9 W10 := by rw [hW10]; exact hL9.live.setOld (by omega) hz8.2.2 hh9 _ _
  have Hs10 : Hid (SB w n x v W10) := hide (by rw [hW10]; exact ((Hs8.out.keep hb9).set hz8.2.1 _ _).set hz8.2.1 _ _)
  have HF := hide (step_fin hL10 Hs10.out (by omega) HR.out.check HN.out (Hfit8.out.look (Net.good_of_check HR.out.check) (by have := HNN.out; have := HtN.out; omega)) Hst.out.symm Herr.out)
  have c7 := (Hs10.out.br.set 0 (.slice (some ⟨y9.G, 0, none⟩) N y9.gc)).set 1 (.slice ba9 bl9 bc9)
  have e0 := c7.cell 0
  have e1 := c7.cell 1
  simp at e0 e1
  have r0 := Hs10.out.br.cell 0
  have r1 := Hs10.out.br.cell 1
  have fr0 := Hs10.out.br.frozen 0
  have fr1 := Hs10.out.br.frozen 1
  simp at r0 r1
  have h10 : Blk W10 P #[.slice (some ⟨y9.G, 0, none⟩) N y9.gc, .slice ba9 bl9 bc9] 31 := by rw [hW10]; exact (hh9.set 0 (.slice (some ⟨y9.G, 0, none⟩) N y9.gc)).set 1 (.slice ba9 bl9 bc9)
  have g0 := h10.cell 0
  have g1 := h10.cell 1
  simp at g0 g1
  have o0 := hh9.cell 0
  have o1 := hh9.cell 1
  have fo0 := hh9.frozen 0
  have fo1 := hh9.frozen 1
  simp at o0 o1
  rw [hW10] at HF e0 e1 r0 r1 fr0 fr1 g0 g1
  clear c7 hL9 hb9 HC8 n0 n1 n2 n3 n4 p0 p1 y1 hL10 hh9 h10 hW10 hz8
  go_wp2
  exact bodyPost_ret (v := .tuple #[.agg #[.slice (some ⟨y9.G, 0, none⟩) N y9.gc, .slice ba9 bl9 bc9], .int .i64 0]) (by simp [results, Tryz.results10, go_sem, e0, e1]) rfl HF.out
 rotate_right
 ·intro t W hG hE _ K hK
  have e10 := valsE_get (hE 10 (by omega)) rfl
  have e11 := valsE_get (hE 11 (by omega)) rfl
  subst hG
  simp only [fill, Act.put, List.setIfInBounds_toArray, List.set_cons_zero, List.set_cons_succ, e10, e11] at hK ⊢
  rw [if_pos (by rfl)]
  have cq : W7.drew.cell? ⟨y.Tb tn, fn, none⟩ = some (.slice (y.ta tn fn) (if (x.eng.without k).told tn fn = true then N else 0) (y.tc tn fn)) := Q2.out
  have fq : W7.drew.frozen? ⟨y.Tb tn, fn, none⟩ = false := Fq2.out
  go_simp
  exact hK undef _ HW8.out.symm
 all_goals intro t W hG hp ht K hK
 all_goals clear ht
 all_goals subst hG
 all_goals simp only [fill, Act.put, List.setIfInBounds_toArray, List.set_cons_zero, List.set_cons_succ] at hK ⊢
 ·rw [if_pos (by rfl)]
  go_simp
  exact hK _ _ rfl rfl (fun _ _ _ h => h)
 ·have e0 := valsE_get (hp 0 (by decide)) rfl
  have cq : W7.drew.cell? ⟨P, 0, none⟩ = some (.slice (some ⟨y.G, 0, none⟩) N y.gc) := Q0.out
  simp only [e0] at hK ⊢
  rw [if_pos (by rfl)]
  go_simp
  exact hK _ _ rfl rfl (fun _ _ _ h => h)
 ·rw [if_pos (by rfl)]
  go_simp
  exact hK _ _ rfl rfl (fun _ _ _ h => h)
 ·have e2 := valsE_get (hp 2 (by decide)) rfl
  have cq : W7.drew.cell? ⟨q14, 1, none⟩ = some (.int .i64 (tn : Int)) := Z1.out
  simp only [e2] at hK ⊢
  rw [if_pos (by rfl)]
  go_simp
  exact hK _ _ rfl rfl (fun _ _ _ h => h)
 ·have e1 := valsE_get (hp 1 (by decide)) rfl
  have e3 := valsE_get (hp 3 (by decide)) rfl
  simp only [e1, e3] at hK ⊢
  rw [if_pos (by rfl)]
  go_simp
  exact hK _ _ rfl rfl (fun _ _ _ h => h)
 ·have e4 := valsE_get (hp 4 (by decide)) rfl
  simp only [e4] at hK ⊢
  rw [if_pos (by rfl)]
  go_simp
  exact hK _ _ rfl rfl (fun _ _ _ h => h)
 ·have e5 := valsE_get (hp 5 (by decide)) rfl
  have cq : W7.drew.cell? ⟨y.G, tn * 2 + 1, none⟩ = some (.slice (some ⟨y.Tb tn, 0, none⟩) N (y.Tc tn)) := Q1.out
  simp only [e5] at hK ⊢
  rw [if_pos (by rfl)]
  go_simp
  exact hK _ _ rfl rfl (fun _ _ _ h => h)
 ·rw [if_pos (by rfl)]
  go_simp
  exact hK _ _ rfl rfl (fun _ _ _ h => h)
 ·have e7 := valsE_get (hp 7 (by decide)) rfl
  have cq : W7.drew.cell? ⟨q14, 0, none⟩ = some (.int .i64 (fn : Int)) := Z0.out
  simp only [e7] at hK ⊢
  rw [if_pos (by rfl)]
  go_simp
  exact hK _ _ rfl rfl (fun _ _ _ h => h)
 ·rw [if_pos (by rfl)]
  go_simp
  exact hK _ _ rfl rfl (fun _ _ _ h => h)
 ·have e9 := valsE_get (hp 9 (by decide)) rfl
  have cq : W7.drew.cell? ⟨q16, 2, none⟩ = some (.slice p.ra N p.rc) := Z2.out
  simp only [e9] at hK ⊢
  rw [if_pos (by rfl)]
  go_simp
  exact hK _ _ rfl rfl (fun _ _ _ h => h)
 ·have e6 := valsE_get (hp 6 (by decide)) rfl
  have e8 := valsE_get (hp 8 (by decide)) rfl
  simp only [e6, e8] at hK ⊢
  rw [if_pos (by rfl)]
  go_simp
  exact hK _ _ rfl rfl (fun _ _ _ h => h)

end Go.Proofs.YtjhkadffaephmabGreat
