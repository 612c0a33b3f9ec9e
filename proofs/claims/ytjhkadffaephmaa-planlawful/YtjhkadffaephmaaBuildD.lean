/-
  plan.buildPair.
-/
import Derived.Test.YtjhkadffaephmaaBuildC
namespace Go.Proofs.Ytjhkadffaephmaa
set_option maxRecDepth 100000
open Go.RowKit

set_option maxHeartbeats 4000000 in
theorem buildPair_any (mx my : AlgM) (x y : NAlg) (w : World) (lx : LiesA mx x) (ly : LiesA my y) (ix : mx.In w.heap.size w) (iy : my.In w.heap.size w) (hx : x.Ok) (hy : y.Ok) (hel : x.el = y.el) (hsz : (x.size - 1) * (y.size - 1) + 1 ≤ 24) :
    Calls Try.prog 107 #[mx.val, my.val] w fun e w' => Made (pairN x y) w.heap.size e w' ∧ Below w.heap.size w w' := by
  have ex := lx.size
  have ey := ly.size
  have exB : mx.B.t.len = x.size := by rw [lx.B]; rfl
  have eyB : my.B.t.len = y.size := by rw [ly.B]; rfl
  have exE : mx.E.t.len = x.el := by rw [lx.E]; rfl
  have eyE : my.E.t.len = x.el := by rw [ly.E, hel]; rfl
  have lox := hx.lo
  have loy := hy.lo
  have hix := hx.hi
  have hiy := hy.hi
  have he8 := hx.el
  simp only [AlgM.val, Mat.val, ex, ey, exB, eyB, exE, eyE]
  have b0 : Blk (((w.alloc (.cells #[.int .i64 x.size, .slice mx.B.ga x.size mx.B.cap, .slice mx.E.ga x.el mx.E.cap] 24)).alloc (.cells #[.int .i64 y.size, .slice my.B.ga y.size my.B.cap, .slice my.E.ga x.el my.E.cap] 24)).alloc (.cells #[.int .i64 0, .slice none 0 0, .slice none 0 0] 24)) w.heap.size #[.int .i64 x.size, .slice mx.B.ga x.size mx.B.cap, .slice mx.E.ga x.el mx.E.cap] 24 := ((Blk.new w _ _).alloc _).alloc _
  have b1 : Blk (((w.alloc (.cells #[.int .i64 x.size, .slice mx.B.ga x.size mx.B.cap, .slice mx.E.ga x.el mx.E.cap] 24)).alloc (.cells #[.int .i64 y.size, .slice my.B.ga y.size my.B.cap, .slice my.E.ga x.el my.E.cap] 24)).alloc (.cells #[.int .i64 0, .slice none 0 0, .slice none 0 0] 24)) (w.heap.size + 1) #[.int .i64 y.size, .slice my.B.ga y.size my.B.cap, .slice my.E.ga x.el my.E.cap] 24 := (Blk.new' (by simp)).alloc _
  have b2 : Blk (((w.alloc (.cells #[.int .i64 x.size, .slice mx.B.ga x.size mx.B.cap, .slice mx.E.ga x.el mx.E.cap] 24)).alloc (.cells #[.int .i64 y.size, .slice my.B.ga y.size my.B.cap, .slice my.E.ga x.el my.E.cap] 24)).alloc (.cells #[.int .i64 0, .slice none 0 0, .slice none 0 0] 24)) (w.heap.size + 1 + 1) #[.int .i64 0, .slice none 0 0, .slice none 0 0] 24 := Blk.new' (by simp)
  have hb0 : Below w.heap.size w (((w.alloc (.cells #[.int .i64 x.size, .slice mx.B.ga x.size mx.B.cap, .slice mx.E.ga x.el mx.E.cap] 24)).alloc (.cells #[.int .i64 y.size, .slice my.B.ga y.size my.B.cap, .slice my.E.ga x.el my.E.cap] 24)).alloc (.cells #[.int .i64 0, .slice none 0 0, .slice none 0 0] 24)) := (((Below.refl _ w).alloc (Nat.le_refl _) _).alloc (by simp) _).alloc (by simp; omega) _
  have HEL := hide hel
  clear hel ex ey exB eyB exE eyE
  go_enter Try.func107, Try.ntmps107
  go_wp2_with fail
  generalize hW : (((w.alloc (.cells #[.int .i64 x.size, .slice mx.B.ga x.size mx.B.cap, .slice mx.E.ga x.el mx.E.cap] 24)).alloc (.cells #[.int .i64 y.size, .slice my.B.ga y.size my.B.cap, .slice my.E.ga x.el my.E.cap] 24)).alloc (.cells #[.int .i64 0, .slice none 0 0, .slice none 0 0] 24)) = W at *
  have hws : W.heap.size = w.heap.size + 3 := by rw [← hW]; simp
  clear hW
  have x0 := b0.cell 0
  have y0 := b1.cell 0
  simp at x0 y0
  go_cut [5, 6] from 11 to 16 (fun p5 p6 wx => ∃ b5 b6 : Nat, p5 = .pointer (some ⟨b5, 0, none⟩) ∧ p6 = .pointer (some ⟨b6, 0, none⟩) ∧ Hid (w.heap.size + 3 ≤ b5 ∧ w.heap.size + 3 ≤ b6 ∧ Blk wx b5 #[.int .i64 ((x.size : Int) - 1)] 3 ∧ Blk wx b6 #[.int .i64 ((y.size : Int) - 1)] 3 ∧ Below (w.heap.size + 3) W wx))
  case first =>
    go_region
    · go_wp2_with fail
      go_meet
      exact ⟨_, _, rfl, rfl, hide ⟨by omega, by omega, (Blk.new' (by omega)).alloc _, Blk.new' (by simp [hws]), ((((Below.refl _ W).alloc (by omega) _).alloc (by simp; omega) _).trans ⟨rfl, rfl, rfl, Nat.le_refl _, fun _ _ => rfl⟩)⟩⟩
    · go_wp2_with fail
      go_meet
      exact ⟨_, _, rfl, rfl, hide ⟨by omega, by omega, Blk.new' (by simp [hws]), (Blk.new' (by omega)).alloc _, ((((Below.refl _ W).alloc (by omega) _).alloc (by simp; omega) _).trans ⟨rfl, rfl, rfl, Nat.le_refl _, fun _ _ => rfl⟩)⟩⟩
  case rest =>
    obtain ⟨b5, b6, rfl, rfl, H⟩ := hcut
    obtain ⟨l5, l6, k5, k6, hbc⟩ := H.out
    have c5 := k5.cell 0
    have c6 := k6.cell 0
    simp at c5 c6
    have hxm : ((x.size : Int) - 1) * ((y.size : Int) - 1) = (((x.size - 1) * (y.size - 1) : Nat) : Int) := by
      rw [Int.natCast_mul, Int.ofNat_sub (by omega), Int.ofNat_sub (by omega)]; rfl
    obtain ⟨inv, hinv⟩ : ∃ inv, (x.size - 1) * (y.size - 1) = inv := ⟨_, rfl⟩
    rw [hinv] at hxm hsz
    have hinvi : (inv : Int) ≤ 23 := by omega
    have Hinv := hide hinv
    clear hinv x0 y0 H
    go_wp2_with fail
    have bI := Blk.new wc #[.int .i64 (inv : Int)] 3
    have hbv : Below (w.heap.size + 3) W (wc.alloc (.cells #[.int .i64 (inv : Int)] 3)) := hbc.alloc (by have := hbc.size; omega) _
    have k5' := k5.alloc (.cells #[.int .i64 (inv : Int)] 3)
    have k6' := k6.alloc (.cells #[.int .i64 (inv : Int)] 3)
    have hcs := hbc.size
    have ltI : wc.heap.size < (wc.alloc (.cells #[.int .i64 (inv : Int)] 3)).heap.size := bI.lt
    generalize wc.alloc (.cells #[.int .i64 (inv : Int)] 3) = V at *
    clear c5 c6 k5 k6
    have b0' := b0.below hbv (by omega)
    have b1' := b1.below hbv (by omega)
    have b2' := b2.below hbv (by omega)
    have hB0 := hb0.trans (hbv.mono (by omega))
    have ex1 : ((x.size - 1 : Nat) : Int) = (x.size : Int) - 1 := by omega
    have ey1 : ((y.size - 1 : Nat) : Int) = (y.size : Int) - 1 := by omega
    have hsee : ∀ W', Below V.heap.size V W' → PairSees x y mx my wc.heap.size b6 (w.heap.size + 1) w.heap.size w.heap.size W' ∧ W'.cell? ⟨b5, 0, none⟩ = some (.int .i64 ((x.size - 1 : Nat) : Int)) := fun W' hb => by
      have hbw := hB0.trans (hb.mono hB0.size)
      refine ⟨⟨lx, ly, ix.below hbw (Nat.le_refl _), iy.below hbw (Nat.le_refl _), ?_, ?_, ?_, ?_, ?_, ?_⟩, ?_⟩
      · rw [Hinv.out]; exact (bI.below hb bI.lt).cell 0
      · rw [ey1]; exact (k6'.below hb k6'.lt).cell 0
      · rw [(b1'.below hb b1'.lt).cell 1]; simp only [Mat.val, ly.B, NAlg.B]; rfl
      · rw [(b1'.below hb b1'.lt).cell 2]; simp only [Mat.val, ly.E, NAlg.E]; rw [← HEL.out]; rfl
      · rw [(b0'.below hb b0'.lt).cell 1]; simp only [Mat.val, lx.B, NAlg.B]; rfl
      · rw [(b0'.below hb b0'.lt).cell 2]; simp only [Mat.val, lx.E, NAlg.E]; rfl
      · rw [ex1]; exact (k5'.below hb k5'.lt).cell 0
    have hvd : Below V.heap.size V V.drew := ⟨rfl, rfl, rfl, Nat.le_refl _, fun _ _ => rfl⟩
    have hok := pair_ok hx hy HEL.out (by rw [Hinv.out]; exact hsz)
    have HT1 := hide (table_any 134 #[.pointer (some ⟨wc.heap.size, 0, none⟩), .pointer (some ⟨b6, 0, none⟩), .pointer (some ⟨w.heap.size + 1, 0, none⟩), .pointer (some ⟨w.heap.size, 0, none⟩)] (inv + 1) (inv + 1) (fun a b => ((pairBest x y a b : Nat) : Int)) V.drew hsz hsz calls_pair1 (fun a b W' ha hb hb' => by
      have := pair1_any x y mx my wc.heap.size b6 (w.heap.size + 1) w.heap.size w.heap.size a b W' (hsee W' (hvd.trans hb')).1 hx hy (by rw [Hinv.out]; exact hsz) (by rw [Hinv.out]; exact ha) (by rw [Hinv.out]; exact hb)
      simpa using this))
    have HT2 := hide (fun (w1 : World) (hb : Below V.heap.size V w1) => table_any 135 #[.pointer (some ⟨wc.heap.size, 0, none⟩), .pointer (some ⟨w.heap.size, 0, none⟩), .pointer (some ⟨b6, 0, none⟩), .pointer (some ⟨w.heap.size + 1, 0, none⟩), .pointer (some ⟨b5, 0, none⟩)] x.el (inv + 1) (fun e a => ((pairEdge x y e a : Nat) : Int)) w1 (by omega) hsz calls_pair2 (fun e a W' he ha hb' => by
      obtain ⟨see, cf⟩ := hsee W' (hb.trans (hb'.mono hb.size))
      have := pair2_any x y mx my wc.heap.size b6 (w.heap.size + 1) w.heap.size b5 w.heap.size e a W' see cf hx hy HEL.out he (by rw [Hinv.out]; exact ha)
      simpa using this))
    have HSE := hide hsee
    clear hsee
    have e2 : ((inv + 1 : Nat) : Int) = (inv : Int) + 1 := by omega
    simp only [e2] at HT1 HT2
    have x2 := b0'.cell 2
    simp at x2
    have ne0 : w.heap.size ≠ w.heap.size + 1 + 1 := by omega
    go_region_held3 (fun w' => w'.cell? ⟨w.heap.size, 2, none⟩ = some (.slice mx.E.ga x.el mx.E.cap)) (first | (go_keep; done) | exact k1 | exact k2 | exact (b02.far3 ne0 _ _ _).cell 2)
      (first
        | (go_at_call 131; refine HT1.out.mono ?_; rintro e w1 ⟨rfl, hl1⟩; have hB1 := hvd.trans hl1.below; have k1 := (b0'.below hB1 b0'.lt).cell 2; have HL1 := hide hl1; clear hl1 HT1)
        | (go_at_call 131; refine (HT2.out _ hB1).mono ?_; rintro e w2 ⟨rfl, hl2⟩; have hB2 := hB1.trans (hl2.below.mono hB1.size); have b02 := b0'.below hB2 b0'.lt; have k2 := b02.cell 2; have b12 := b2'.below hB2 b2'.lt; have d0 := b12.cell 0; have d1 := b12.cell 1; have d2 := b12.cell 2; have df := b12.frozen; simp at d0 d1 d2; have HL2 := hide hl2; clear hl2))
    all_goals
      have HM : Hid (Made (pairN x y) w.heap.size (.returned (.agg #[.int .i64 ((inv : Int) + 1), .slice (some ⟨V.heap.size, 0, none⟩) (inv + 1) (inv + 1), .slice (some ⟨w1.heap.size, 0, none⟩) x.el x.el])) (set3 w2 (w.heap.size + 1 + 1) (.int .i64 ((inv : Int) + 1)) (.slice (some ⟨V.heap.size, 0, none⟩) (inv + 1) (inv + 1)) (.slice (some ⟨w1.heap.size, 0, none⟩) x.el x.el))) := hide (by
        have hps : (pairN x y).size = inv + 1 := by show (x.size - 1) * (y.size - 1) + 1 = _; rw [Hinv.out]
        have h1 := HL1.out
        have h2 := HL2.out
        have := made_end (x := pairN x y) (W1 := V.drew) (w1 := w1) (w2 := w2) (B := w.heap.size + 1 + 1) (b := w.heap.size) hok (by rw [hps]; exact h1) (by rw [hps]; exact h2) (by show w.heap.size + 1 + 1 < V.heap.size; omega) (by show w.heap.size ≤ V.heap.size; omega) (.int .i64 ((inv : Int) + 1)) (.slice (some ⟨V.heap.size, 0, none⟩) (inv + 1) (inv + 1)) (.slice (some ⟨w1.heap.size, 0, none⟩) x.el x.el)
        rw [hps, e2] at this
        exact this)
      have HBe := hide (below3 (hB0.trans (hB2.mono (by omega))) (show w.heap.size ≤ w.heap.size + 1 + 1 by omega) (.int .i64 ((inv : Int) + 1)) (.slice (some ⟨V.heap.size, 0, none⟩) (inv + 1) (inv + 1)) (.slice (some ⟨w1.heap.size, 0, none⟩) x.el x.el))
      have b13 := b12.set3 (.int .i64 ((inv : Int) + 1)) (.slice (some ⟨V.heap.size, 0, none⟩) (inv + 1) (inv + 1)) (.slice (some ⟨w1.heap.size, 0, none⟩) x.el x.el)
      have e0 := b13.cell 0
      have e1 := b13.cell 1
      have e2' := b13.cell 2
      unfold Ytjhkadffaephmaa.set3 at e0 e1 e2'
      simp at e0 e1 e2'
      clear d0 d1 d2 df k1 k2 b02 b12
      go_wp2
      exact bodyPost_ret (v := .agg #[.int .i64 ((inv : Int) + 1), .slice (some ⟨V.heap.size, 0, none⟩) (inv + 1) (inv + 1), .slice (some ⟨w1.heap.size, 0, none⟩) x.el x.el]) (by simp [results, Try.results107, go_sem, e0, e1, e2']) rfl ⟨HM.out, HBe.out⟩

end Go.Proofs.Ytjhkadffaephmaa
