/-
  Our own texts, bundled: a claim holds few files.
-/
import Derived.Test.YtjhkadffaephmabBundleEI
import Derived.Test.YtjhkadffaephmabBundleDI
import Derived.Test.YtjhkadffaephmabBundleDJ
import Derived.Test.YtjhkadffaephmabBundleAJ
/-
  signpostref.First, BestOf.
-/
namespace Go.Proofs.Ytjhkadffaephmab
set_option maxRecDepth 100000
open Go.RowKit

structure FstG (n : NetM) (a b : RtM) (w W : World) : Prop where
  below : Below w.heap.size w W
  net : Blk W w.heap.size n.cells 41
  one : Blk W (w.heap.size + 1) a.cells 71
  two : Blk W (w.heap.size + 1 + 1) b.cells 71
theorem FstG.keep {n : NetM} {a b : RtM} {w W W' : World} (h : FstG n a b w W) (hb : Below W.heap.size W W') : FstG n a b w W' :=
  ⟨h.below.trans (hb.mono h.below.size), h.net.below hb h.net.lt, h.one.below hb h.one.lt, h.two.below hb h.two.lt⟩

set_option maxHeartbeats 4000000 in
theorem firstR_any (n : NetM) (a b : RtM) (w : World) (h : n.In w.heap.size w) (hck : n.net.check = 0) (ha : a.In w.heap.size w) (hb : b.In w.heap.size w) (ha0 : 0 ≤ a.w) (ha1 : a.w < n.a.size) (hb0 : 0 ≤ b.w) (hb1 : b.w < n.a.size) :
    Calls Try.prog 100 #[n.val, a.val, b.val] w fun e w' => e = .returned (.bool (n.net.firstR a.rt b.rt)) ∧ Below w.heap.size w w' := by
  have g := Net.good_of_check hck
  have hs2 : 2 ≤ n.a.size := g.law.good.lo
  have hs24 : n.a.size ≤ 24 := g.law.good.hi
  have hla := ha.ints.len
  have hlb := hb.ints.len
  unfold maxLen at hla hlb
  obtain ⟨W1, hW1⟩ : ∃ W1, W1 = ((w.alloc (.cells n.cells 41)).alloc (.cells a.cells 71)).alloc (.cells b.cells 71) := ⟨_, rfl⟩
  have hB1 : Below w.heap.size w W1 := by rw [hW1]; exact (((Below.refl _ w).alloc (Nat.le_refl _) _).alloc (by simp) _).alloc (by simp; omega) _
  have HG1 : Hid (FstG n a b w W1) := hide ⟨hB1, by rw [hW1]; exact ((Blk.new w _ _).alloc _).alloc _, by rw [hW1]; exact (Blk.new' (by simp)).alloc _, by rw [hW1]; exact Blk.new' (by simp)⟩
  have HVa := hide (fun W => refValid_any n a W hs2 hs24)
  have HVb := hide (fun W => refValid_any n b W hs2 hs24)
  obtain ⟨na, hna⟩ : ∃ na : Nat, a.w = na := ⟨a.w.toNat, by omega⟩
  obtain ⟨nb, hnb⟩ : ∃ nb : Nat, b.w = nb := ⟨b.w.toNat, by omega⟩
  have HBe := hide (fun W (hbl : Below w.heap.size w W) => (h.below hbl (Nat.le_refl _)).bestAt g (r := na) (s := nb) (by omega) (by omega))
  have HIa := hide (fun W (hbl : Below w.heap.size w W) => (ha.below hbl (Nat.le_refl _)).ints)
  have HIb := hide (fun W (hbl : Below w.heap.size w W) => (hb.below hbl (Nat.le_refl _)).ints)
  have Hd : Hid (n.net.firstR a.rt b.rt = if n.net.valid a.rt = true ∧ n.net.valid b.rt = true then (if a.w = b.w then (if a.l = b.l then !lexLt (listOf b.l b.f) (listOf a.l a.f) else decide (a.l < b.l)) else n.net.a.B.get a.w b.w == a.w) else n.net.valid a.rt) := hide (by
    show (if _ then (if a.w = b.w then (if (listOf a.l a.f).length = (listOf b.l b.f).length then !lexLt (listOf b.l b.f) (listOf a.l a.f) else decide ((listOf a.l a.f).length < (listOf b.l b.f).length)) else _) else _) = _
    rw [listOf_length, listOf_length]
    rfl)
  generalize n.net.firstR a.rt b.rt = fv at *
  generalize n.net.valid a.rt = va at *
  generalize n.net.valid b.rt = vb at *
  rw [hna, hnb] at Hd
  have x0 := HG1.out.net.cell 0
  have x1 := HG1.out.net.cell 1
  have x2 := HG1.out.net.cell 2
  have x3 := HG1.out.net.cell 3
  have x4 := HG1.out.net.cell 4
  have y0 := HG1.out.one.cell 0
  have y1 := HG1.out.one.cell 1
  simp [NetM.cells, RtM.cells, Mat.val] at x0 x1 x2 x3 x4 y0 y1
  have HW1 := hide hW1
  have Hna := hide hna
  have Hnb := hide hnb
  simp only [NetM.val, NetM.cells, Mat.val, RtM.val, RtM.cells] at HW1 HVa HVb ⊢
  clear hB1 hW1 h ha hb g hck ha0 ha1 hb0 hb1 hna hnb
  have HV1 := hide (HVa.out W1)
  rw [HW1.out] at HV1 x0 x1 x2 x3 x4 y0 y1
  go_enter Try.func100, Try.ntmps100
  go_wp2_with fail
  go_at_call 37
  refine HV1.out.mono ?_
  rw [← HW1.out]
  rintro e w2 ⟨rfl, hb2⟩
  have HG2 := hide (HG1.out.keep hb2)
  clear hb2 HV1 HW1 HG1 x0 x1 x2 x3 x4 y0 y1
  cases va with
  | false =>
    have Hr : Hid (fv = false) := hide (by rw [Hd.out, if_neg (by simp)])
    have HV2 := hide (HVa.out w2)
    have x0 := HG2.out.net.cell 0
    have x1 := HG2.out.net.cell 1
    have x2 := HG2.out.net.cell 2
    have x3 := HG2.out.net.cell 3
    have x4 := HG2.out.net.cell 4
    have y0 := HG2.out.one.cell 0
    have y1 := HG2.out.one.cell 1
    simp [NetM.cells, RtM.cells, Mat.val] at x0 x1 x2 x3 x4 y0 y1
    clear Hd
    go_wp2_with fail
    go_at_call 37
    refine HV2.out.mono ?_
    rintro e w3 ⟨rfl, hb3⟩
    have HB3 := hide (HG2.out.keep hb3).below
    clear hb3 HV2 x0 x1 x2 x3 x4 y0 y1
    go_wp2
    go_ret
    exact ⟨by rw [Hr.out]; rfl, HB3.out⟩
  | true =>
    have HV2 := hide (HVb.out w2)
    have x0 := HG2.out.net.cell 0
    have x1 := HG2.out.net.cell 1
    have x2 := HG2.out.net.cell 2
    have x3 := HG2.out.net.cell 3
    have x4 := HG2.out.net.cell 4
    have y0 := HG2.out.two.cell 0
    have y1 := HG2.out.two.cell 1
    simp [NetM.cells, RtM.cells, Mat.val] at x0 x1 x2 x3 x4 y0 y1
    go_wp2_with fail
    go_at_call 37
    refine HV2.out.mono ?_
    rintro e w3 ⟨rfl, hb3⟩
    have HG3 := hide (HG2.out.keep hb3)
    clear hb3 HV2 HG2 x0 x1 x2 x3 x4 y0 y1
    cases vb with
    | false =>
      have Hr : Hid (fv = true) := hide (by rw [Hd.out, if_neg (by simp)])
      have HV3 := hide (HVa.out w3)
      have x0 := HG3.out.net.cell 0
      have x1 := HG3.out.net.cell 1
      have x2 := HG3.out.net.cell 2
      have x3 := HG3.out.net.cell 3
      have x4 := HG3.out.net.cell 4
      have y0 := HG3.out.one.cell 0
      have y1 := HG3.out.one.cell 1
      simp [NetM.cells, RtM.cells, Mat.val] at x0 x1 x2 x3 x4 y0 y1
      clear Hd
      go_wp2_with fail
      go_at_call 37
      refine HV3.out.mono ?_
      rintro e w4 ⟨rfl, hb4⟩
      have HB4 := hide (HG3.out.keep hb4).below
      clear hb4 HV3 x0 x1 x2 x3 x4 y0 y1
      go_wp2
      go_ret
      exact ⟨by rw [Hr.out]; rfl, HB4.out⟩
    | true =>
      have Hd2 : Hid (fv = if (na : Int) = nb then (if a.l = b.l then !lexLt (listOf b.l b.f) (listOf a.l a.f) else decide (a.l < b.l)) else n.net.a.B.get na nb == (na : Int)) := hide (by rw [Hd.out, if_pos (by simp)])
      have HB3 := hide HG3.out.below
      have y0 := HG3.out.one.cell 0
      have y1 := HG3.out.one.cell 1
      have z0 := HG3.out.two.cell 0
      have z1 := HG3.out.two.cell 1
      have x1 := HG3.out.net.cell 1
      simp [NetM.cells, RtM.cells, Mat.val, Hna.out, Hnb.out] at x1 y0 y1 z0 z1
      clear Hd HVa HVb
      by_cases hw : na = nb
      · subst hw
        have hw' : ((na : Int) != (na : Int)) = false := by simp
        by_cases hl : a.l = b.l
        · have hl' : ((a.l : Int) != (b.l : Int)) = false := by simp [hl]
          have Hr0 : Hid (fv = !lexLt (listOf a.l b.f) (listOf a.l a.f)) := hide (by rw [Hd2.out, if_pos rfl, if_pos hl, ← hl])
          have Hl := hide hl
          clear Hd2 hl
          go_wp2_with fail
          go_loopw [7] (fun q wr => ∃ k : Nat, k ≤ a.l ∧ q = .int .i64 k ∧ Hid (∀ r, r < k → b.f r = a.f r) ∧ Hid (∃ z, wr = w3.drewN z)) (fun q _ => a.l - (intOf q).toNat)
          case atStart => exact ⟨0, Nat.zero_le _, rfl, hide (fun r hr => absurd hr (Nat.not_lt_zero _)), hide ⟨0, rfl⟩⟩
          case round =>
            obtain ⟨k, hk, rfl, Hall, HD⟩ := hrel
            have q1 : wr.cell? ⟨w.heap.size + 1, 1, none⟩ = some (.slice a.pa a.l a.q) := by obtain ⟨z, rfl⟩ := HD.out; exact y1
            have r1 : wr.cell? ⟨w.heap.size + 1 + 1, 1, none⟩ = some (.slice b.pa b.l b.q) := by obtain ⟨z, rfl⟩ := HD.out; exact z1
            have HBw : Hid (Below w.heap.size w wr) := hide (by obtain ⟨z, rfl⟩ := HD.out; exact below_drewN HB3.out z)
            by_cases hlt : k < a.l
            · have hki : (k : Int) < (a.l : Int) := by omega
              have hkj : (k : Int) < (b.l : Int) := by have := Hl.out; omega
              have hp1 := (HIa.out wr HBw.out).addr (by omega)
              have hp2 := (HIb.out wr HBw.out).addr (by have := Hl.out; omega)
              have c1 := (HIa.out wr HBw.out).cell k hlt
              have c2 := (HIb.out wr HBw.out).cell k (by have := Hl.out; omega)
              rw [hp1] at q1
              rw [hp2] at r1
              have Hp1 := hide hp1
              have Hp2 := hide hp2
              clear hp1 hp2
              by_cases hne : a.f k = b.f k
              · have hne' : (a.f k != b.f k) = false := by simp [hne]
                have Hn : Hid (∀ r, r < k + 1 → b.f r = a.f r) := hide (fun r hr => by
                  by_cases e : r = k
                  · subst e; exact hne.symm
                  · exact Hall.out r (by omega))
                clear hne
                go_wp2_with fail
                go_quiet (fail)
                go_wp2
                go_roundw
                case rel =>
                  first
                  | exact ⟨k + 1, by omega, by go_num, Hn, hide (by obtain ⟨m, rfl⟩ := HD.out; exact ⟨_, by rw [World.drewN_drewN]⟩)⟩
                  | ((try rw [← Hp1.out]); (try rw [← Hp2.out]); (repeat apply Exists.intro); refine ⟨?_, rfl⟩; exact ⟨k + 1, by omega, by go_num, Hn, hide (by obtain ⟨m, rfl⟩ := HD.out; exact ⟨_, by rw [World.drewN_drewN]⟩)⟩)
                case measure => simp [intOf]; omega
              · have hne' : (a.f k != b.f k) = true := by simp [hne]
                have Hr : Hid (fv = decide (a.f k < b.f k)) := hide (by
                  rw [Hr0.out, lexLt_at hlt Hall.out (Ne.symm hne)]
                  by_cases h1 : a.f k < b.f k
                  · rw [decide_eq_true h1, decide_eq_false (by omega)]; rfl
                  · rw [decide_eq_false h1, decide_eq_true (by omega)]; rfl)
                clear hne Hr0
                have q1a : ∀ z, (wr.drewN z).cell? ⟨w.heap.size + 1, 1, none⟩ = some (.slice (some ⟨a.b, a.o, none⟩) a.l a.q) := fun z => q1
                have r1a : ∀ z, (wr.drewN z).cell? ⟨w.heap.size + 1 + 1, 1, none⟩ = some (.slice (some ⟨b.b, b.o, none⟩) b.l b.q) := fun z => r1
                have c1a : ∀ z, (wr.drewN z).cell? ⟨a.b, a.o + k, none⟩ = some (.int .i64 (a.f k)) := fun z => c1
                have c2a : ∀ z, (wr.drewN z).cell? ⟨b.b, b.o + k, none⟩ = some (.int .i64 (b.f k)) := fun z => c2
                go_wp2_with fail
                go_quiet (fail)
                go_wp2_with fail
                go_quiet (fail)
                go_wp2
                go_ret
                exact ⟨by rw [Hr.out]; rfl, by first | exact below_drewN (below_drewN HBw.out _) _ | exact below_drewN HBw.out _⟩
            · have hki : (a.l : Int) ≤ (k : Int) := by omega
              have Hr : Hid (fv = true) := hide (by rw [Hr0.out, lexLt_same (fun i hi => Hall.out i (by omega))]; rfl)
              clear Hr0
              go_wp2
              go_ret
              exact ⟨by rw [Hr.out]; rfl, HBw.out⟩
        · have hl' : ((a.l : Int) != (b.l : Int)) = true := by simp; omega
          have Hr : Hid (fv = decide (a.l < b.l)) := hide (by rw [Hd2.out, if_pos rfl, if_neg hl])
          clear Hd2 hl
          go_wp2
          go_ret
          exact ⟨by rw [Hr.out]; simp, HB3.out⟩
      · have hw' : ((na : Int) != (nb : Int)) = true := by simp; omega
        have Hr : Hid (fv = (n.net.a.B.get na nb == (na : Int))) := hide (by rw [Hd2.out, if_neg (by omega)])
        obtain ⟨c1, c2, c3, c4, c5⟩ := HBe.out w3 HB3.out
        rw [c1] at x1
        clear Hd2 hw c1
        go_wp2_with fail
        go_quiet (fail)
        go_wp2
        go_ret
        exact ⟨by rw [Hr.out]; rfl, by first | exact below_drewN HB3.out _ | exact HB3.out⟩

set_option maxHeartbeats 2000000 in
theorem bestOf_any (n : NetM) (a b : RtM) (w : World) (h : n.In w.heap.size w) (hck : n.net.check = 0) (ha : a.In w.heap.size w) (hb : b.In w.heap.size w) (hRa : n.net.Right a.rt) (hRb : n.net.Right b.rt) :
    Calls Try.prog 36 #[n.val, a.val, b.val] w fun e w' => (∃ r : RtM, e = .returned r.val ∧ (r = a ∨ r = b) ∧ r.rt = n.net.bestR a.rt b.rt) ∧ Below w.heap.size w w' := by
  obtain ⟨W1, hW1⟩ : ∃ W1, W1 = (((w.alloc (.cells n.cells 41)).alloc (.cells a.cells 71)).alloc (.cells b.cells 71)).alloc (.cells #[.int .i64 0, .slice none 0 0] 71) := ⟨_, rfl⟩
  have hB1 : Below w.heap.size w W1 := by rw [hW1]; exact ((((Below.refl _ w).alloc (Nat.le_refl _) _).alloc (by simp) _).alloc (by simp; omega) _).alloc (by simp; omega) _
  have HG1 : Hid (BstG n a b w W1) := hide ⟨hB1, by rw [hW1]; exact (((Blk.new w _ _).alloc _).alloc _).alloc _, by rw [hW1]; exact ((Blk.new' (by simp)).alloc _).alloc _, by rw [hW1]; exact (Blk.new' (by simp)).alloc _, by rw [hW1]; exact Blk.new' (by simp)⟩
  have HF := hide (firstR_any n a b W1 (h.grown hB1) hck (ha.grown hB1) (hb.grown hB1) hRa.lo hRa.hi hRb.lo hRb.hi)
  have Hbe := hide (Net.firstR_best (Net.good_of_check hck) hRa hRb)
  generalize n.net.firstR a.rt b.rt = fv at *
  generalize n.net.bestR a.rt b.rt = be at *
  have x0 := HG1.out.net.cell 0
  have x1 := HG1.out.net.cell 1
  have x2 := HG1.out.net.cell 2
  have x3 := HG1.out.net.cell 3
  have x4 := HG1.out.net.cell 4
  have y0 := HG1.out.one.cell 0
  have y1 := HG1.out.one.cell 1
  have z0 := HG1.out.two.cell 0
  have z1 := HG1.out.two.cell 1
  simp [NetM.cells, RtM.cells, Mat.val] at x0 x1 x2 x3 x4 y0 y1 z0 z1
  have HW1 := hide hW1
  rw [hW1] at HF x0 x1 x2 x3 x4 y0 y1 z0 z1
  simp only [NetM.val, NetM.cells, Mat.val, RtM.val, RtM.cells] at HW1 HF x0 x1 x2 x3 x4 y0 y1 z0 z1 ⊢
  clear hB1 hW1 h ha hb hck hRa hRb
  go_enter Try.func36, Try.ntmps36
  go_wp2_with fail
  go_at_call 100
  refine HF.out.mono ?_
  rw [← HW1.out]
  rintro e w2 ⟨rfl, hb2⟩
  have HG2 := hide (HG1.out.keep hb2)
  clear hb2 HF HW1 HG1 x0 x1 x2 x3 x4 y0 y1 z0 z1
  have o0 := HG2.out.res.cell 0
  have o1 := HG2.out.res.cell 1
  have of0 := HG2.out.res.frozen 0
  have of1 := HG2.out.res.frozen 1
  simp at o0 o1
  cases fv with
  | true =>
    have hr : a.rt = be := by have := Hbe.out; rwa [if_pos rfl] at this
    have y0 := HG2.out.one.cell 0
    have y1 := HG2.out.one.cell 1
    simp [RtM.cells] at y0 y1
    have b3 := HG2.out.res.set2 (.int .i64 a.w) (.slice a.pa a.l a.q)
    have e0 := b3.cell 0
    have e1 := b3.cell 1
    simp at e0 e1
    have HBz := hide ((HG2.out.below.setCell (p := ⟨w.heap.size + 1 + 1 + 1, 0, none⟩) (by show w.heap.size ≤ w.heap.size + 1 + 1 + 1; omega) (.int .i64 a.w)).setCell (p := ⟨w.heap.size + 1 + 1 + 1, 1, none⟩) (by show w.heap.size ≤ w.heap.size + 1 + 1 + 1; omega) (.slice a.pa a.l a.q))
    have Hr := hide hr
    clear b3 hr Hbe
    go_wp2
    exact bodyPost_ret (v := .agg #[.int .i64 a.w, .slice a.pa a.l a.q]) (by simp [results, Try.results36, go_sem, e0, e1]) rfl ⟨⟨a, rfl, Or.inl rfl, Hr.out⟩, HBz.out⟩
  | false =>
    have hr : b.rt = be := by have := Hbe.out; rwa [if_neg (by simp)] at this
    have y0 := HG2.out.two.cell 0
    have y1 := HG2.out.two.cell 1
    simp [RtM.cells] at y0 y1
    have b3 := HG2.out.res.set2 (.int .i64 b.w) (.slice b.pa b.l b.q)
    have e0 := b3.cell 0
    have e1 := b3.cell 1
    simp at e0 e1
    have HBz := hide ((HG2.out.below.setCell (p := ⟨w.heap.size + 1 + 1 + 1, 0, none⟩) (by show w.heap.size ≤ w.heap.size + 1 + 1 + 1; omega) (.int .i64 b.w)).setCell (p := ⟨w.heap.size + 1 + 1 + 1, 1, none⟩) (by show w.heap.size ≤ w.heap.size + 1 + 1 + 1; omega) (.slice b.pa b.l b.q))
    have Hr := hide hr
    clear b3 hr Hbe
    go_wp2
    exact bodyPost_ret (v := .agg #[.int .i64 b.w, .slice b.pa b.l b.q]) (by simp [results, Try.results36, go_sem, e0, e1]) rfl ⟨⟨b, rfl, Or.inr rfl, Hr.out⟩, HBz.out⟩

end Go.Proofs.Ytjhkadffaephmab

/-
  signpostref.ExtendOf.
-/
namespace Go.Proofs.Ytjhkadffaephmab
set_option maxRecDepth 100000
open Go.RowKit

/-- A path behind one node: it lies anew. -/
theorem append_path (W : World) (F : Int) (bl l q b o : Nat) (f : Nat → Int) (hB : Blk W bl #[.int .i64 F] 3) (hI : Ints (some ⟨b, o, none⟩) l b o f W) (hl : 0 < l) (hl2 : l ≤ 60) (ty : TypeId) :
    ∃ cap W4, (Builtin.append_ #[22, 22] ty #[.slice (some ⟨bl, 0, none⟩) 1 1, .slice (some ⟨b, o, none⟩) l q]).run Try.prog W = .ok (.slice (some ⟨W.heap.size, 0, none⟩) (l + 1) cap) W4 ∧
      W.heap.size < W4.heap.size ∧ (∀ i, i < l + 1 → W4.cell? ⟨W.heap.size, i, none⟩ = some (.int .i64 (if i = 0 then F else f (i - 1)))) ∧ Below W.heap.size W W4 := by
  obtain ⟨i1, hi1, hy0, hy1, hy2⟩ := info_parts Try.infoInt
  have hr := run_append_grow (P := Try.prog) W 22 ty 3 i1 _ Try.underlying22 hi1 hy0 ⟨bl, 0, none⟩ 1 1 [.int .i64 F] (by rw [hy1]; rfl) (fun j v hv => by
    match j with
    | 0 => simp at hv; subst hv; rw [Go.WideShapes.add_plain]; exact hB.cell 0
    | j + 1 => simp at hv) ⟨b, o, none⟩ l q (intsL f l) (by rw [intsL_len, hy1, Nat.mul_one]) (fun j u hu => by
    have hj : j < l := by
      rcases Nat.lt_or_ge j l with h' | h'
      · exact h'
      · rw [List.getElem?_eq_none (by rw [intsL_len]; exact h')] at hu; cases hu
    rw [intsL_get hj] at hu
    cases hu
    rw [Go.WideShapes.add_plain]
    exact hI.cell j hj) (by omega) (by omega) (growslice_fits (by omega) (by rw [hy2]; omega))
  rw [Nat.add_comm 1 l] at hr
  refine ⟨_, _, hr, by simp, fun i hi => ?_, (Below.refl W.heap.size W).drew.alloc (Nat.le_refl _) _⟩
  have hb := Blk.new W.drew ([.int .i64 F].toArray ++ (intsL f l).toArray ++ Builtin.zeroCells (Value.int .i64 0).cells (grownCap W (l + 1) 1 3 - (l + 1))) 3
  refine (hb.cell i).trans ?_
  rw [Array.getElem?_append_left (by simp [intsL_len]; omega)]
  cases i with
  | zero => rw [Array.getElem?_append_left (by simp)]; rfl
  | succ i =>
    rw [Array.getElem?_append_right (by simp)]
    simp only [List.getElem?_toArray]
    simp
    rw [intsL_get (by omega)]

/-- What the operations leave. -/
def etoP (F : Int) (l : Nat) (f : Nat → Int) (B g : Nat) (W : World) : Prop := B < g ∧ g < W.heap.size ∧ ∀ i, i < l + 1 → W.cell? ⟨g, i, none⟩ = some (.int .i64 (if i = 0 then F else f (i - 1)))
theorem etoP.keep {F : Int} {l : Nat} {f : Nat → Int} {B g : Nat} {W W' : World} (h : etoP F l f B g W) (hb : Below W.heap.size W W') : etoP F l f B g W' := ⟨h.1, Nat.lt_of_lt_of_le h.2.1 hb.size, fun i hi => by rw [hb.cell (p := ⟨g, i, none⟩) h.2.1]; exact h.2.2 i hi⟩
def etoE (vs : List Value) (F W3 : Int) (l : Nat) (f : Nat → Int) (B : Nat) (k : Nat) (v : Value) (W : World) : Prop :=
  match k with
  | 11 => ∃ b, v = .slice (some ⟨b, 0, none⟩) 1 1 ∧ Blk W b #[.int .i64 F] 3
  | 14 => ∃ g cap, v = .slice (some ⟨g, 0, none⟩) (l + 1) cap ∧ etoP F l f B g W
  | 15 => ∃ g cap, v = .agg #[.int .i64 W3, .slice (some ⟨g, 0, none⟩) (l + 1) cap] ∧ etoP F l f B g W
  | k => vs[k]? = some v
theorem etoE.keep {vs : List Value} {F W3 : Int} {l : Nat} {f : Nat → Int} {B : Nat} {W W' : World} (hb : Below W.heap.size W W') (k : Nat) (v : Value) (h : etoE vs F W3 l f B k v W) : etoE vs F W3 l f B k v W' := by
  unfold etoE at *
  split at h
  · obtain ⟨b, h1, h2⟩ := h
    exact ⟨b, h1, h2.below hb h2.lt⟩
  · obtain ⟨g, c, h1, h2⟩ := h
    exact ⟨g, c, h1, h2.keep hb⟩
  · obtain ⟨g, c, h1, h2⟩ := h
    exact ⟨g, c, h1, h2.keep hb⟩
  · exact h
theorem etoE_get {vs : List Value} {F W3 : Int} {l : Nat} {f : Nat → Int} {B k : Nat} {v t : Value} {W : World} (h : etoE vs F W3 l f B k v W) (hk : k ≠ 11 ∧ k ≠ 14 ∧ k ≠ 15) (hu : vs[k]? = some t) : v = t := by
  unfold etoE at h
  split at h
  · exact absurd rfl hk.1
  · exact absurd rfl hk.2.1
  · exact absurd rfl hk.2.2
  · rw [hu] at h
    injection h with h
    exact h.symm

set_option maxHeartbeats 4000000 in
theorem extendOf_any (n : NetM) (F : Int) (en : Nat) (r : RtM) (w : World) (h : n.In w.heap.size w) (hck : n.net.check = 0) (hr : r.In w.heap.size w) (hR : n.net.Right r.rt) (hl : r.l ≤ 60) (he : en < n.a.E.t.len) :
    Calls Try.prog 38 #[n.val, .int .i64 F, .int .i64 (en : Int), r.val] w fun e w' => (∃ r' : RtM, e = .returned r'.val ∧ r'.Made w.heap.size (n.net.ext F en r.rt) w') ∧ Below w.heap.size w w' := by
  have g := Net.good_of_check hck
  have hs2 : 2 ≤ n.a.size := g.law.good.lo
  have hs24 : n.a.size ≤ 24 := g.law.good.hi
  obtain ⟨W1, hW1⟩ : ∃ W1, W1 = ((w.alloc (.cells n.cells 41)).alloc (.cells r.cells 71)).alloc (.cells #[.int .i64 0, .slice none 0 0] 71) := ⟨_, rfl⟩
  have hB1 : Below w.heap.size w W1 := by rw [hW1]; exact (((Below.refl _ w).alloc (Nat.le_refl _) _).alloc (by simp) _).alloc (by simp; omega) _
  have HG1 : Hid (EtdG n r w W1) := hide ⟨hB1, by rw [hW1]; exact ((Blk.new w _ _).alloc _).alloc _, by rw [hW1]; exact (Blk.new' (by simp)).alloc _, by rw [hW1]; exact Blk.new' (by simp)⟩
  have HVr := hide (fun W => refValid_any n r W hs2 hs24)
  have HHs := hide (fun W (hb : Below w.heap.size w W) => has_ints r.pa r.l r.q r.b r.o r.f F W (hr.below hb (Nat.le_refl _)).ints)
  obtain ⟨wn, hwn⟩ : ∃ wn : Nat, r.w = wn := ⟨r.w.toNat, by have := hR.lo; have e : r.rt.w = r.w := rfl; omega⟩
  have hw1 : (wn : Int) < n.a.size := by have := hR.hi; have e : r.rt.w = r.w := rfl; have e2 : n.net.a.size = n.a.size := rfl; omega
  have Hed := hide (fun W (hb : Below w.heap.size w W) => (h.below hb (Nat.le_refl _)).edgeAt g (e := en) (s := wn) (by omega) hw1)
  have Ha1 : Hid (n.a.E.ga = some ⟨n.a.E.gb, n.a.E.go, none⟩) := hide (Hed.out w (Below.refl _ _)).1
  have HC2 := hide (fun W hb => (Hed.out W hb).2.1)
  have HC3 := hide (fun W hb => (Hed.out W hb).2.2.1)
  have Hwl : Hid ((wn : Int) < (n.a.E.t.L en : Int)) := hide (Hed.out w (Below.refl _ _)).2.2.2
  have Hel : Hid ((en : Int) < (n.a.E.t.len : Int)) := hide (by omega)
  have Hwn := hide hwn
  have Hext : Hid (n.net.ext F en r.rt = if n.net.valid r.rt = true ∧ F ∉ listOf r.l r.f ∧ n.net.a.E.get en wn ≠ n.a.size - 1 then ⟨n.net.a.E.get en wn, F :: listOf r.l r.f⟩ else n.net.inv) := hide (by
    unfold Net.ext
    have e1 : r.rt.w = (wn : Int) := hwn
    have e2 : r.rt.p = listOf r.l r.f := rfl
    rw [e1, e2]
    rfl)
  have Hvl : Hid (n.net.valid r.rt = true → 0 < r.l) := hide hR.some
  have HR := hide (fun W (hb : Below w.heap.size w W) => hr.below hb (Nat.le_refl _))
  have Hrb := hide hr.blk
  have HW1 := hide hW1
  generalize n.net.ext F en r.rt = ex at *
  generalize n.net.valid r.rt = vd at *
  generalize n.net.a.E.get en wn = W3 at *
  have x0 := HG1.out.net.cell 0
  simp [NetM.cells] at x0
  rw [hW1] at x0
  simp only [NetM.val, NetM.cells, Mat.val, RtM.val, RtM.cells] at HW1 HVr x0 ⊢
  clear hB1 hW1 h hr hR g hck he hwn hw1 Hed
  go_enter Try.func38, Try.ntmps38
  go_wp2_with fail
  rw [← HW1.out]
  clear HW1 x0
  cases vd with
  | false =>
    have Hx : Hid (ex = n.net.inv) := hide (by rw [Hext.out, if_neg (by simp)])
    clear Hext Hvl
    refine wp_region_only (fun W => EtdG n r w W) (valsE [n.val, r.val, .bool false, .bool true, .bool true, undef, undef, undef, undef, .bool true, .bool true, undef, undef, undef, undef, undef, undef, undef, undef, undef, undef, undef, undef, .bool true]) (by kernel_rfl) (by kernel_rfl) (by kernel_rfl) (HG1.out.keep (below_drewN (Below.refl _ _) 1)) ⟨?_, ?_, ?_, ?_, ?_, ?_, ?_, ?_, ?_, ?_, ?_, ?_, ?_, ?_, ?_, ?_, ?_, ?_, ?_, ?_, ?_, ?_, ?_, ?_, trivial⟩ ?_
    rotate_right
    · intro t W hG hE
      have e23 := valsE_get (hE 23 (by decide)) rfl
      have HG' := hide hG
      clear hE hG
      simp only [fill, Act.put, List.setIfInBounds_toArray, List.set_cons_zero, List.set_cons_succ, e23]
      clear e23
      have o0 := HG'.out.res.cell 0
      have o1 := HG'.out.res.cell 1
      have of0 := HG'.out.res.frozen 0
      have of1 := HG'.out.res.frozen 1
      simp at o0 o1
      have b3 := HG'.out.res.set2 (.int .i64 (n.a.size - 1)) (.slice none 0 0)
      have e0 := b3.cell 0
      have e1 := b3.cell 1
      simp at e0 e1
      have HBz := hide ((HG'.out.below.setCell (p := ⟨w.heap.size + 1 + 1, 0, none⟩) (by show w.heap.size ≤ w.heap.size + 1 + 1; omega) (.int .i64 (n.a.size - 1))).setCell (p := ⟨w.heap.size + 1 + 1, 1, none⟩) (by show w.heap.size ≤ w.heap.size + 1 + 1; omega) (.slice none 0 0))
      clear b3 HVr HHs
      go_wp2
      exact bodyPost_ret (v := .agg #[.int .i64 (n.a.size - 1), .slice none 0 0]) (by simp [results, Try.results38, go_sem, e0, e1]) rfl ⟨⟨RtM.mk (n.a.size - 1) none 0 0 0 0 (fun _ => 0), rfl, by rw [Hx.out]; exact made_inv⟩, HBz.out⟩
    all_goals intro t W hG hp K hK
    all_goals simp only [fill, Act.put, List.setIfInBounds_toArray, List.set_cons_zero, List.set_cons_succ] at hK ⊢
    · have x0 := hG.net.cell 0
      have x1 := hG.net.cell 1
      have x2 := hG.net.cell 2
      have x3 := hG.net.cell 3
      have x4 := hG.net.cell 4
      simp [NetM.cells, Mat.val] at x0 x1 x2 x3 x4
      rw [if_pos (by rfl)]
      go_simp
      exact hK _ W hG rfl (fun _ _ _ h => h)
    · have y0 := hG.one.cell 0
      have y1 := hG.one.cell 1
      simp [RtM.cells] at y0 y1
      rw [if_pos (by rfl)]
      go_simp
      exact hK _ W hG rfl (fun _ _ _ h => h)
    · have e0 := valsE_get (hp 0 (by decide)) rfl
      have e1 := valsE_get (hp 1 (by decide)) rfl
      simp only [NetM.val, NetM.cells, Mat.val] at e0
      simp only [RtM.val, RtM.cells] at e1
      simp only [e0, e1] at hK ⊢
      rw [if_pos (by rfl)]
      go_simp
      go_at_call 37
      refine (HVr.out W).mono ?_
      rintro e W' ⟨rfl, hb⟩
      go_simp
      exact hK _ W' (hG.keep hb) rfl (fun _ _ _ h => h)
    · have e2 := valsE_get (hp 2 (by decide)) rfl
      simp only [e2] at hK ⊢
      rw [if_pos (by rfl)]
      go_simp
      exact hK _ W hG rfl (fun _ _ _ h => h)
    · have e3 := valsE_get (hp 3 (by decide)) rfl
      simp only [e3] at hK ⊢
      rw [if_pos (by rfl)]
      go_simp
      exact hK _ W hG rfl (fun _ _ _ h => h)
    · have e4 := valsE_get (hp 4 (by decide)) rfl
      simp only [e4] at hK ⊢
      rw [if_neg (by intro hh; exact absurd (show false = true from hh) (by decide))]
      exact hK undef W hG rfl (fun _ _ _ h => h)
    · have e4 := valsE_get (hp 4 (by decide)) rfl
      simp only [e4] at hK ⊢
      rw [if_neg (by intro hh; exact absurd (show false = true from hh) (by decide))]
      exact hK undef W hG rfl (fun _ _ _ h => h)
    · have e4 := valsE_get (hp 4 (by decide)) rfl
      simp only [e4] at hK ⊢
      rw [if_neg (by intro hh; exact absurd (show false = true from hh) (by decide))]
      exact hK undef W hG rfl (fun _ _ _ h => h)
    · have e4 := valsE_get (hp 4 (by decide)) rfl
      simp only [e4] at hK ⊢
      rw [if_neg (by intro hh; exact absurd (show false = true from hh) (by decide))]
      exact hK undef W hG rfl (fun _ _ _ h => h)
    · have e4 := valsE_get (hp 4 (by decide)) rfl
      have e8 := valsE_get (hp 8 (by decide)) rfl
      simp only [e4, e8] at hK ⊢
      rw [if_pos (by rfl)]
      go_simp
      exact hK _ W hG rfl (fun _ _ _ h => h)
    · have e9 := valsE_get (hp 9 (by decide)) rfl
      simp only [e9] at hK ⊢
      rw [if_pos (by rfl)]
      go_simp
      exact hK _ W hG rfl (fun _ _ _ h => h)
    · have e10 := valsE_get (hp 10 (by decide)) rfl
      simp only [e10] at hK ⊢
      rw [if_neg (by intro hh; exact absurd (show false = true from hh) (by decide))]
      exact hK undef W hG rfl (fun _ _ _ h => h)
    · have e10 := valsE_get (hp 10 (by decide)) rfl
      simp only [e10] at hK ⊢
      rw [if_neg (by intro hh; exact absurd (show false = true from hh) (by decide))]
      exact hK undef W hG rfl (fun _ _ _ h => h)
    · have e10 := valsE_get (hp 10 (by decide)) rfl
      simp only [e10] at hK ⊢
      rw [if_neg (by intro hh; exact absurd (show false = true from hh) (by decide))]
      exact hK undef W hG rfl (fun _ _ _ h => h)
    · have e10 := valsE_get (hp 10 (by decide)) rfl
      simp only [e10] at hK ⊢
      rw [if_neg (by intro hh; exact absurd (show false = true from hh) (by decide))]
      exact hK undef W hG rfl (fun _ _ _ h => h)
    · have e10 := valsE_get (hp 10 (by decide)) rfl
      simp only [e10] at hK ⊢
      rw [if_neg (by intro hh; exact absurd (show false = true from hh) (by decide))]
      exact hK undef W hG rfl (fun _ _ _ h => h)
    · have e10 := valsE_get (hp 10 (by decide)) rfl
      simp only [e10] at hK ⊢
      rw [if_neg (by intro hh; exact absurd (show false = true from hh) (by decide))]
      exact hK undef W hG rfl (fun _ _ _ h => h)
    · have e10 := valsE_get (hp 10 (by decide)) rfl
      simp only [e10] at hK ⊢
      rw [if_neg (by intro hh; exact absurd (show false = true from hh) (by decide))]
      exact hK undef W hG rfl (fun _ _ _ h => h)
    · have e10 := valsE_get (hp 10 (by decide)) rfl
      simp only [e10] at hK ⊢
      rw [if_neg (by intro hh; exact absurd (show false = true from hh) (by decide))]
      exact hK undef W hG rfl (fun _ _ _ h => h)
    · have e10 := valsE_get (hp 10 (by decide)) rfl
      simp only [e10] at hK ⊢
      rw [if_neg (by intro hh; exact absurd (show false = true from hh) (by decide))]
      exact hK undef W hG rfl (fun _ _ _ h => h)
    · have e10 := valsE_get (hp 10 (by decide)) rfl
      simp only [e10] at hK ⊢
      rw [if_neg (by intro hh; exact absurd (show false = true from hh) (by decide))]
      exact hK undef W hG rfl (fun _ _ _ h => h)
    · have e10 := valsE_get (hp 10 (by decide)) rfl
      simp only [e10] at hK ⊢
      rw [if_neg (by intro hh; exact absurd (show false = true from hh) (by decide))]
      exact hK undef W hG rfl (fun _ _ _ h => h)
    · have e10 := valsE_get (hp 10 (by decide)) rfl
      simp only [e10] at hK ⊢
      rw [if_neg (by intro hh; exact absurd (show false = true from hh) (by decide))]
      exact hK undef W hG rfl (fun _ _ _ h => h)
    · have e10 := valsE_get (hp 10 (by decide)) rfl
      have e22 := valsE_get (hp 22 (by decide)) rfl
      simp only [e10, e22] at hK ⊢
      rw [if_pos (by rfl)]
      go_simp
      exact hK _ W hG rfl (fun _ _ _ h => h)
  | true =>
    have Hl0 := hide (Hvl.out (by trivial))
    by_cases hm : F ∈ listOf r.l r.f
    · rw [decide_eq_true hm] at HHs
      have Hx : Hid (ex = n.net.inv) := hide (by rw [Hext.out, if_neg (fun hh => hh.2.1 hm)])
      clear Hext Hvl hm
      refine wp_region_only (fun W => EtdG n r w W) (valsE [n.val, r.val, .bool true, .bool false, .bool false, .pointer (some ⟨w.heap.size + 1, 1, none⟩), .slice r.pa r.l r.q, .int .i64 F, .bool true, .bool true, .bool true, undef, undef, undef, undef, undef, undef, undef, undef, undef, undef, undef, undef, .bool true]) (by kernel_rfl) (by kernel_rfl) (by kernel_rfl) (HG1.out.keep (below_drewN (Below.refl _ _) 1)) ⟨?_, ?_, ?_, ?_, ?_, ?_, ?_, ?_, ?_, ?_, ?_, ?_, ?_, ?_, ?_, ?_, ?_, ?_, ?_, ?_, ?_, ?_, ?_, ?_, trivial⟩ ?_
      rotate_right
      · intro t W hG hE
        have e23 := valsE_get (hE 23 (by decide)) rfl
        have HG' := hide hG
        clear hE hG
        simp only [fill, Act.put, List.setIfInBounds_toArray, List.set_cons_zero, List.set_cons_succ, e23]
        clear e23
        have o0 := HG'.out.res.cell 0
        have o1 := HG'.out.res.cell 1
        have of0 := HG'.out.res.frozen 0
        have of1 := HG'.out.res.frozen 1
        simp at o0 o1
        have b3 := HG'.out.res.set2 (.int .i64 (n.a.size - 1)) (.slice none 0 0)
        have e0 := b3.cell 0
        have e1 := b3.cell 1
        simp at e0 e1
        have HBz := hide ((HG'.out.below.setCell (p := ⟨w.heap.size + 1 + 1, 0, none⟩) (by show w.heap.size ≤ w.heap.size + 1 + 1; omega) (.int .i64 (n.a.size - 1))).setCell (p := ⟨w.heap.size + 1 + 1, 1, none⟩) (by show w.heap.size ≤ w.heap.size + 1 + 1; omega) (.slice none 0 0))
        clear b3 HVr HHs
        go_wp2
        exact bodyPost_ret (v := .agg #[.int .i64 (n.a.size - 1), .slice none 0 0]) (by simp [results, Try.results38, go_sem, e0, e1]) rfl ⟨⟨RtM.mk (n.a.size - 1) none 0 0 0 0 (fun _ => 0), rfl, by rw [Hx.out]; exact made_inv⟩, HBz.out⟩
      all_goals intro t W hG hp K hK
      all_goals simp only [fill, Act.put, List.setIfInBounds_toArray, List.set_cons_zero, List.set_cons_succ] at hK ⊢
      · have x0 := hG.net.cell 0
        have x1 := hG.net.cell 1
        have x2 := hG.net.cell 2
        have x3 := hG.net.cell 3
        have x4 := hG.net.cell 4
        simp [NetM.cells, Mat.val] at x0 x1 x2 x3 x4
        rw [if_pos (by rfl)]
        go_simp
        exact hK _ W hG rfl (fun _ _ _ h => h)
      · have y0 := hG.one.cell 0
        have y1 := hG.one.cell 1
        simp [RtM.cells] at y0 y1
        rw [if_pos (by rfl)]
        go_simp
        exact hK _ W hG rfl (fun _ _ _ h => h)
      · have e0 := valsE_get (hp 0 (by decide)) rfl
        have e1 := valsE_get (hp 1 (by decide)) rfl
        simp only [NetM.val, NetM.cells, Mat.val] at e0
        simp only [RtM.val, RtM.cells] at e1
        simp only [e0, e1] at hK ⊢
        rw [if_pos (by rfl)]
        go_simp
        go_at_call 37
        refine (HVr.out W).mono ?_
        rintro e W' ⟨rfl, hb⟩
        go_simp
        exact hK _ W' (hG.keep hb) rfl (fun _ _ _ h => h)
      · have e2 := valsE_get (hp 2 (by decide)) rfl
        simp only [e2] at hK ⊢
        rw [if_pos (by rfl)]
        go_simp
        exact hK _ W hG rfl (fun _ _ _ h => h)
      · have e3 := valsE_get (hp 3 (by decide)) rfl
        simp only [e3] at hK ⊢
        rw [if_pos (by rfl)]
        go_simp
        exact hK _ W hG rfl (fun _ _ _ h => h)
      · have e4 := valsE_get (hp 4 (by decide)) rfl
        simp only [e4] at hK ⊢
        rw [if_pos (by rfl)]
        go_simp
        exact hK _ W hG rfl (fun _ _ _ h => h)
      · have e4 := valsE_get (hp 4 (by decide)) rfl
        have e5 := valsE_get (hp 5 (by decide)) rfl
        have y1 := hG.one.cell 1
        simp [RtM.cells] at y1
        simp only [e4, e5] at hK ⊢
        rw [if_pos (by rfl)]
        go_simp
        exact hK _ W hG rfl (fun _ _ _ h => h)
      · have e4 := valsE_get (hp 4 (by decide)) rfl
        simp only [e4] at hK ⊢
        rw [if_pos (by rfl)]
        go_simp
        exact hK _ W hG rfl (fun _ _ _ h => h)
      · have e4 := valsE_get (hp 4 (by decide)) rfl
        have e6 := valsE_get (hp 6 (by decide)) rfl
        have e7 := valsE_get (hp 7 (by decide)) rfl
        simp only [e4, e6, e7] at hK ⊢
        rw [if_pos (by rfl)]
        go_simp
        go_at_call 62
        refine (HHs.out W hG.below).mono ?_
        rintro e W' ⟨rfl, rfl⟩
        go_simp
        exact hK _ _ hG rfl (fun _ _ _ h => h)
      · have e4 := valsE_get (hp 4 (by decide)) rfl
        have e8 := valsE_get (hp 8 (by decide)) rfl
        simp only [e4, e8] at hK ⊢
        rw [if_pos (by rfl)]
        go_simp
        exact hK _ W hG rfl (fun _ _ _ h => h)
      · have e9 := valsE_get (hp 9 (by decide)) rfl
        simp only [e9] at hK ⊢
        rw [if_pos (by rfl)]
        go_simp
        exact hK _ W hG rfl (fun _ _ _ h => h)
      · have e10 := valsE_get (hp 10 (by decide)) rfl
        simp only [e10] at hK ⊢
        rw [if_neg (by intro hh; exact absurd (show false = true from hh) (by decide))]
        exact hK undef W hG rfl (fun _ _ _ h => h)
      · have e10 := valsE_get (hp 10 (by decide)) rfl
        simp only [e10] at hK ⊢
        rw [if_neg (by intro hh; exact absurd (show false = true from hh) (by decide))]
        exact hK undef W hG rfl (fun _ _ _ h => h)
      · have e10 := valsE_get (hp 10 (by decide)) rfl
        simp only [e10] at hK ⊢
        rw [if_neg (by intro hh; exact absurd (show false = true from hh) (by decide))]
        exact hK undef W hG rfl (fun _ _ _ h => h)
      · have e10 := valsE_get (hp 10 (by decide)) rfl
        simp only [e10] at hK ⊢
        rw [if_neg (by intro hh; exact absurd (show false = true from hh) (by decide))]
        exact hK undef W hG rfl (fun _ _ _ h => h)
      · have e10 := valsE_get (hp 10 (by decide)) rfl
        simp only [e10] at hK ⊢
        rw [if_neg (by intro hh; exact absurd (show false = true from hh) (by decide))]
        exact hK undef W hG rfl (fun _ _ _ h => h)
      · have e10 := valsE_get (hp 10 (by decide)) rfl
        simp only [e10] at hK ⊢
        rw [if_neg (by intro hh; exact absurd (show false = true from hh) (by decide))]
        exact hK undef W hG rfl (fun _ _ _ h => h)
      · have e10 := valsE_get (hp 10 (by decide)) rfl
        simp only [e10] at hK ⊢
        rw [if_neg (by intro hh; exact absurd (show false = true from hh) (by decide))]
        exact hK undef W hG rfl (fun _ _ _ h => h)
      · have e10 := valsE_get (hp 10 (by decide)) rfl
        simp only [e10] at hK ⊢
        rw [if_neg (by intro hh; exact absurd (show false = true from hh) (by decide))]
        exact hK undef W hG rfl (fun _ _ _ h => h)
      · have e10 := valsE_get (hp 10 (by decide)) rfl
        simp only [e10] at hK ⊢
        rw [if_neg (by intro hh; exact absurd (show false = true from hh) (by decide))]
        exact hK undef W hG rfl (fun _ _ _ h => h)
      · have e10 := valsE_get (hp 10 (by decide)) rfl
        simp only [e10] at hK ⊢
        rw [if_neg (by intro hh; exact absurd (show false = true from hh) (by decide))]
        exact hK undef W hG rfl (fun _ _ _ h => h)
      · have e10 := valsE_get (hp 10 (by decide)) rfl
        simp only [e10] at hK ⊢
        rw [if_neg (by intro hh; exact absurd (show false = true from hh) (by decide))]
        exact hK undef W hG rfl (fun _ _ _ h => h)
      · have e10 := valsE_get (hp 10 (by decide)) rfl
        simp only [e10] at hK ⊢
        rw [if_neg (by intro hh; exact absurd (show false = true from hh) (by decide))]
        exact hK undef W hG rfl (fun _ _ _ h => h)
      · have e10 := valsE_get (hp 10 (by decide)) rfl
        have e22 := valsE_get (hp 22 (by decide)) rfl
        simp only [e10, e22] at hK ⊢
        rw [if_pos (by rfl)]
        go_simp
        exact hK _ W hG rfl (fun _ _ _ h => h)
    · rw [decide_eq_false hm] at HHs
      have Hbad : Hid ((W3 == n.a.size - 1) = true → ex = n.net.inv) := hide (fun e => by rw [Hext.out, if_neg (fun hh => hh.2.2 (by simpa using e))])
      have Hgood : Hid ((W3 == n.a.size - 1) = false → ex = ⟨W3, F :: listOf r.l r.f⟩) := hide (fun e => by rw [Hext.out, if_pos ⟨rfl, hm, by simpa using e⟩])
      obtain ⟨eq, heq⟩ : ∃ eq, eq = (W3 == n.a.size - 1) := ⟨_, rfl⟩
      have Heq : Hid ((W3 == n.a.size - 1) = eq) := hide heq.symm
      rw [← heq] at Hbad Hgood
      clear Hext Hvl hm heq
      refine wp_region_only (fun W => EtdG n r w W) (valsE [n.val, r.val, .bool true, .bool false, .bool false, .pointer (some ⟨w.heap.size + 1, 1, none⟩), .slice r.pa r.l r.q, .int .i64 F, .bool false, .bool false, .bool false, .pointer (some ⟨w.heap.size, 0, none⟩), .pointer (some ⟨w.heap.size, 2, none⟩), .slice (some ⟨n.a.E.gb, n.a.E.go, none⟩) n.a.E.t.len n.a.E.cap, .int .i64 (en : Int), .pointer (some ⟨n.a.E.gb, n.a.E.go + en, none⟩), .slice (some ⟨n.a.E.RB en, n.a.E.RO en, none⟩) (n.a.E.t.L en) (n.a.E.C en), .pointer (some ⟨w.heap.size + 1, 0, none⟩), .int .i64 (wn : Int), .pointer (some ⟨n.a.E.RB en, n.a.E.RO en + wn, none⟩), .int .i64 W3, .int .i64 (n.a.size - 1), .bool eq, .bool eq]) (by kernel_rfl) (by kernel_rfl) (by kernel_rfl) (HG1.out.keep (below_drewN (Below.refl _ _) 1)) ⟨?_, ?_, ?_, ?_, ?_, ?_, ?_, ?_, ?_, ?_, ?_, ?_, ?_, ?_, ?_, ?_, ?_, ?_, ?_, ?_, ?_, ?_, ?_, ?_, trivial⟩ ?_
      rotate_right
      · intro t W hG hE
        have e23 := valsE_get (hE 23 (by decide)) rfl
        have HG' := hide hG
        clear hE hG
        simp only [fill, Act.put, List.setIfInBounds_toArray, List.set_cons_zero, List.set_cons_succ, e23]
        clear e23
        cases eq with
        | true =>
          have Hx : Hid (ex = n.net.inv) := hide (Hbad.out (by trivial))
          have o0 := HG'.out.res.cell 0
          have o1 := HG'.out.res.cell 1
          have of0 := HG'.out.res.frozen 0
          have of1 := HG'.out.res.frozen 1
          simp at o0 o1
          have b3 := HG'.out.res.set2 (.int .i64 (n.a.size - 1)) (.slice none 0 0)
          have e0 := b3.cell 0
          have e1 := b3.cell 1
          simp at e0 e1
          have HBz := hide ((HG'.out.below.setCell (p := ⟨w.heap.size + 1 + 1, 0, none⟩) (by show w.heap.size ≤ w.heap.size + 1 + 1; omega) (.int .i64 (n.a.size - 1))).setCell (p := ⟨w.heap.size + 1 + 1, 1, none⟩) (by show w.heap.size ≤ w.heap.size + 1 + 1; omega) (.slice none 0 0))
          clear b3 HVr HHs
          go_wp2
          exact bodyPost_ret (v := .agg #[.int .i64 (n.a.size - 1), .slice none 0 0]) (by simp [results, Try.results38, go_sem, e0, e1]) rfl ⟨⟨RtM.mk (n.a.size - 1) none 0 0 0 0 (fun _ => 0), rfl, by rw [Hx.out]; exact made_inv⟩, HBz.out⟩
        | false =>
          have Hx : Hid (ex = ⟨W3, F :: listOf r.l r.f⟩) := hide (Hgood.out (by trivial))
          have hpa := (HR.out W HG'.out.below).ints.addr Hl0.out
          have Hpa := hide hpa
          have hel := Hel.out
          have hwl := Hwl.out
          clear HVr HHs Hbad Hgood hpa
          go_wp2_with fail
          refine wp_region_last 16 _ (fun W' => EtdG n r w W')
            (etoE [.pointer (some ⟨w.heap.size, 0, none⟩), .pointer (some ⟨w.heap.size, 2, none⟩), .slice (some ⟨n.a.E.gb, n.a.E.go, none⟩) n.a.E.t.len n.a.E.cap, .int .i64 (en : Int), .pointer (some ⟨n.a.E.gb, n.a.E.go + en, none⟩), .slice (some ⟨n.a.E.RB en, n.a.E.RO en, none⟩) (n.a.E.t.L en) (n.a.E.C en), .pointer (some ⟨w.heap.size + 1, 0, none⟩), .int .i64 (wn : Int), .pointer (some ⟨n.a.E.RB en, n.a.E.RO en + wn, none⟩), .int .i64 W3, .int .i64 F, undef, .pointer (some ⟨w.heap.size + 1, 1, none⟩), .slice (some ⟨r.b, r.o, none⟩) r.l r.q] F W3 r.l r.f (w.heap.size + 1 + 1))
            (fun _ W' => ∃ g cap, Blk W' (w.heap.size + 1 + 1) #[.int .i64 W3, .slice (some ⟨g, 0, none⟩) (r.l + 1) cap] 71 ∧ etoP F r.l r.f (w.heap.size + 1 + 1) g W' ∧ Below w.heap.size w W') (fun _ _ _ => True) (by kernel_rfl) (by kernel_rfl) (by kernel_rfl) (by kernel_rfl) (by kernel_rfl) rfl (HG'.out.keep (below_drewN (Below.refl _ _) 1)) ⟨?_, ?_, ?_, ?_, ?_, ?_, ?_, ?_, ?_, ?_, ?_, ?_, ?_, ?_, ?_, ?_, trivial⟩ ?_ trivial ?_
          rotate_right
          · intro t W' hG _
            simp only [fill, Act.put, List.setIfInBounds_toArray, List.set_cons_zero, List.set_cons_succ]
            obtain ⟨gg, cap, hbk, hp, hbl⟩ := hG
            have e0 := hbk.cell 0
            have e1 := hbk.cell 1
            simp at e0 e1
            have HBz := hide hbl
            have HMz : Hid ((RtM.mk W3 (some ⟨gg, 0, none⟩) (r.l + 1) cap gg 0 (fun i => if i = 0 then F else r.f (i - 1))).Made w.heap.size ⟨W3, F :: listOf r.l r.f⟩ W') := hide ⟨⟨⟨fun _ => rfl, fun i hi => by
                rw [Nat.zero_add]
                exact hp.2.2 i hi, by show r.l + 1 ≤ maxLen; unfold maxLen; omega⟩, fun _ => hp.2.1⟩, fun _ => by show w.heap.size ≤ gg; have := hp.1; omega, by show Rt.mk W3 (listOf (r.l + 1) _) = _; rw [listOf_cons]; rfl⟩
            clear hbk hp hbl
            go_wp2
            exact bodyPost_ret (v := .agg #[.int .i64 W3, .slice (some ⟨gg, 0, none⟩) (r.l + 1) cap]) (by simp [results, Try.results38, go_sem, e0, e1]) rfl ⟨⟨_, rfl, by rw [Hx.out]; exact HMz.out⟩, HBz.out⟩
          rotate_right
          · intro t W' hG hE _ K hK
            simp only [fill, Act.put, List.setIfInBounds_toArray, List.set_cons_zero, List.set_cons_succ] at hK ⊢
            rw [if_pos (by rfl)]
            obtain ⟨gg, cap, e15, hp⟩ := hE 15 (by omega)
            have o0 := hG.res.cell 0
            have o1 := hG.res.cell 1
            have of0 := hG.res.frozen 0
            have of1 := hG.res.frozen 1
            simp at o0 o1
            have hne : gg ≠ w.heap.size + 1 + 1 := by have := hp.1; omega
            have hN := hide (show ∃ g c, Blk ((W'.setCell ⟨w.heap.size + 1 + 1, 0, none⟩ (.int .i64 W3)).setCell ⟨w.heap.size + 1 + 1, 1, none⟩ (.slice (some ⟨gg, 0, none⟩) (r.l + 1) cap)) (w.heap.size + 1 + 1) #[.int .i64 W3, .slice (some ⟨g, 0, none⟩) (r.l + 1) c] 71 ∧ etoP F r.l r.f (w.heap.size + 1 + 1) g ((W'.setCell ⟨w.heap.size + 1 + 1, 0, none⟩ (.int .i64 W3)).setCell ⟨w.heap.size + 1 + 1, 1, none⟩ (.slice (some ⟨gg, 0, none⟩) (r.l + 1) cap)) ∧ Below w.heap.size w ((W'.setCell ⟨w.heap.size + 1 + 1, 0, none⟩ (.int .i64 W3)).setCell ⟨w.heap.size + 1 + 1, 1, none⟩ (.slice (some ⟨gg, 0, none⟩) (r.l + 1) cap)) from ⟨gg, cap, hG.res.set2 _ _, ⟨hp.1, by have := hp.2.1; simpa [World.setCell] using this, fun i hi => by rw [cell_other hne, cell_other hne]; exact hp.2.2 i hi⟩, (hG.below.setCell (p := ⟨w.heap.size + 1 + 1, 0, none⟩) (by show w.heap.size ≤ w.heap.size + 1 + 1; omega) _).setCell (p := ⟨w.heap.size + 1 + 1, 1, none⟩) (by show w.heap.size ≤ w.heap.size + 1 + 1; omega) _⟩)
            clear hG hE hp hne
            simp only [e15] at hK ⊢
            go_simp
            exact hK undef _ hN.out
          all_goals intro t W hG hp _ K hK
          all_goals simp only [fill, Act.put, List.setIfInBounds_toArray, List.set_cons_zero, List.set_cons_succ] at hK ⊢
          · rw [if_pos (by rfl)]
            go_simp
            exact hK _ W hG rfl (fun _ _ _ h => h)
          · have e0 := etoE_get (hp 0 (by decide)) (by decide) rfl
            simp only [e0] at hK ⊢
            rw [if_pos (by rfl)]
            go_simp
            exact hK _ W hG rfl (fun _ _ _ h => h)
          · have e1 := etoE_get (hp 1 (by decide)) (by decide) rfl
            have x2 := hG.net.cell 2
            simp [NetM.cells, Mat.val] at x2
            rw [Ha1.out] at x2
            simp only [e1] at hK ⊢
            rw [if_pos (by rfl)]
            go_simp
            exact hK _ W hG rfl (fun _ _ _ h => h)
          · rw [if_pos (by rfl)]
            go_simp
            exact hK _ W hG rfl (fun _ _ _ h => h)
          · have e2 := etoE_get (hp 2 (by decide)) (by decide) rfl
            have e3 := etoE_get (hp 3 (by decide)) (by decide) rfl
            simp only [e2, e3] at hK ⊢
            rw [if_pos (by rfl)]
            go_simp
            exact hK _ W hG rfl (fun _ _ _ h => h)
          · have e4 := etoE_get (hp 4 (by decide)) (by decide) rfl
            have c2 := HC2.out W hG.below
            simp only [e4] at hK ⊢
            rw [if_pos (by rfl)]
            go_simp
            exact hK _ W hG rfl (fun _ _ _ h => h)
          · rw [if_pos (by rfl)]
            go_simp
            exact hK _ W hG rfl (fun _ _ _ h => h)
          · have e6 := etoE_get (hp 6 (by decide)) (by decide) rfl
            have y0 := hG.one.cell 0
            simp [RtM.cells] at y0
            rw [Hwn.out] at y0
            simp only [e6] at hK ⊢
            rw [if_pos (by rfl)]
            go_simp
            exact hK _ W hG rfl (fun _ _ _ h => h)
          · have e5 := etoE_get (hp 5 (by decide)) (by decide) rfl
            have e7 := etoE_get (hp 7 (by decide)) (by decide) rfl
            simp only [e5, e7] at hK ⊢
            rw [if_pos (by rfl)]
            go_simp
            exact hK _ W hG rfl (fun _ _ _ h => h)
          · have e8 := etoE_get (hp 8 (by decide)) (by decide) rfl
            have c3 := HC3.out W hG.below
            simp only [e8] at hK ⊢
            rw [if_pos (by rfl)]
            go_simp
            exact hK _ W hG rfl (fun _ _ _ h => h)
          · rw [if_pos (by rfl)]
            go_simp
            exact hK _ W hG rfl (fun _ _ _ h => h)
          · have e10 := etoE_get (hp 10 (by decide)) (by decide) rfl
            simp only [e10] at hK ⊢
            rw [if_pos (by rfl)]
            have hb : Below W.heap.size W (W.alloc (.cells #[.int .i64 F] 3)) := (Below.refl _ W).alloc (Nat.le_refl _) _
            go_simp
            exact hK _ _ (hG.keep hb) ⟨W.heap.size, rfl, Blk.new W _ _⟩ (fun q u _ => etoE.keep hb q u)
          · rw [if_pos (by rfl)]
            go_simp
            exact hK _ W hG rfl (fun _ _ _ h => h)
          · have e12 := etoE_get (hp 12 (by decide)) (by decide) rfl
            have y1 := hG.one.cell 1
            simp [RtM.cells] at y1
            rw [Hpa.out] at y1
            simp only [e12] at hK ⊢
            rw [if_pos (by rfl)]
            go_simp
            exact hK _ W hG rfl (fun _ _ _ h => h)
          · have e13 := etoE_get (hp 13 (by decide)) (by decide) rfl
            obtain ⟨bl, e11, hbl⟩ := hp 11 (by decide)
            obtain ⟨cap, W4, hrun, hg2, hcell, hb4⟩ := append_path W F bl r.l r.q r.b r.o r.f hbl ⟨fun _ => rfl, (HR.out W hG.below).ints.cell, (HR.out W hG.below).ints.len⟩ Hl0.out hl 22
            simp only [e11] at hK ⊢
            simp only [e13] at hK ⊢
            rw [if_pos (by rfl)]
            refine wp_append_run (by rfl) _ _ 22 (by rfl) _ _ (by rfl) (by rfl) _ W4 hrun ?_
            exact hK _ W4 (hG.keep hb4) ⟨W.heap.size, cap, rfl, hG.res.lt, hg2, hcell⟩ (fun q u _ => etoE.keep hb4 q u)
          · have e9 := etoE_get (hp 9 (by decide)) (by decide) rfl
            obtain ⟨gg, cap, e14, hpp⟩ := hp 14 (by decide)
            simp only [e14] at hK ⊢
            simp only [e9] at hK ⊢
            rw [if_pos (by rfl)]
            go_simp
            exact hK _ W hG ⟨gg, cap, rfl, hpp⟩ (fun _ _ _ h => h)
      all_goals intro t W hG hp K hK
      all_goals simp only [fill, Act.put, List.setIfInBounds_toArray, List.set_cons_zero, List.set_cons_succ] at hK ⊢
      · have x0 := hG.net.cell 0
        have x1 := hG.net.cell 1
        have x2 := hG.net.cell 2
        have x3 := hG.net.cell 3
        have x4 := hG.net.cell 4
        simp [NetM.cells, Mat.val] at x0 x1 x2 x3 x4
        rw [if_pos (by rfl)]
        go_simp
        exact hK _ W hG rfl (fun _ _ _ h => h)
      · have y0 := hG.one.cell 0
        have y1 := hG.one.cell 1
        simp [RtM.cells] at y0 y1
        rw [if_pos (by rfl)]
        go_simp
        exact hK _ W hG rfl (fun _ _ _ h => h)
      · have e0 := valsE_get (hp 0 (by decide)) rfl
        have e1 := valsE_get (hp 1 (by decide)) rfl
        simp only [NetM.val, NetM.cells, Mat.val] at e0
        simp only [RtM.val, RtM.cells] at e1
        simp only [e0, e1] at hK ⊢
        rw [if_pos (by rfl)]
        go_simp
        go_at_call 37
        refine (HVr.out W).mono ?_
        rintro e W' ⟨rfl, hb⟩
        go_simp
        exact hK _ W' (hG.keep hb) rfl (fun _ _ _ h => h)
      · have e2 := valsE_get (hp 2 (by decide)) rfl
        simp only [e2] at hK ⊢
        rw [if_pos (by rfl)]
        go_simp
        exact hK _ W hG rfl (fun _ _ _ h => h)
      · have e3 := valsE_get (hp 3 (by decide)) rfl
        simp only [e3] at hK ⊢
        rw [if_pos (by rfl)]
        go_simp
        exact hK _ W hG rfl (fun _ _ _ h => h)
      · have e4 := valsE_get (hp 4 (by decide)) rfl
        simp only [e4] at hK ⊢
        rw [if_pos (by rfl)]
        go_simp
        exact hK _ W hG rfl (fun _ _ _ h => h)
      · have e4 := valsE_get (hp 4 (by decide)) rfl
        have e5 := valsE_get (hp 5 (by decide)) rfl
        have y1 := hG.one.cell 1
        simp [RtM.cells] at y1
        simp only [e4, e5] at hK ⊢
        rw [if_pos (by rfl)]
        go_simp
        exact hK _ W hG rfl (fun _ _ _ h => h)
      · have e4 := valsE_get (hp 4 (by decide)) rfl
        simp only [e4] at hK ⊢
        rw [if_pos (by rfl)]
        go_simp
        exact hK _ W hG rfl (fun _ _ _ h => h)
      · have e4 := valsE_get (hp 4 (by decide)) rfl
        have e6 := valsE_get (hp 6 (by decide)) rfl
        have e7 := valsE_get (hp 7 (by decide)) rfl
        simp only [e4, e6, e7] at hK ⊢
        rw [if_pos (by rfl)]
        go_simp
        go_at_call 62
        refine (HHs.out W hG.below).mono ?_
        rintro e W' ⟨rfl, rfl⟩
        go_simp
        exact hK _ _ hG rfl (fun _ _ _ h => h)
      · have e4 := valsE_get (hp 4 (by decide)) rfl
        have e8 := valsE_get (hp 8 (by decide)) rfl
        simp only [e4, e8] at hK ⊢
        rw [if_pos (by rfl)]
        go_simp
        exact hK _ W hG rfl (fun _ _ _ h => h)
      · have e9 := valsE_get (hp 9 (by decide)) rfl
        simp only [e9] at hK ⊢
        rw [if_pos (by rfl)]
        go_simp
        exact hK _ W hG rfl (fun _ _ _ h => h)
      · have e10 := valsE_get (hp 10 (by decide)) rfl
        simp only [e10] at hK ⊢
        rw [if_pos (by rfl)]
        go_simp
        exact hK _ W hG rfl (fun _ _ _ h => h)
      · have e10 := valsE_get (hp 10 (by decide)) rfl
        have e11 := valsE_get (hp 11 (by decide)) rfl
        simp only [e10, e11] at hK ⊢
        rw [if_pos (by rfl)]
        go_simp
        exact hK _ W hG rfl (fun _ _ _ h => h)
      · have e10 := valsE_get (hp 10 (by decide)) rfl
        have e12 := valsE_get (hp 12 (by decide)) rfl
        have x2 := hG.net.cell 2
        simp [NetM.cells, Mat.val] at x2
        rw [Ha1.out] at x2
        simp only [e10, e12] at hK ⊢
        rw [if_pos (by rfl)]
        go_simp
        exact hK _ W hG rfl (fun _ _ _ h => h)
      · have e10 := valsE_get (hp 10 (by decide)) rfl
        simp only [e10] at hK ⊢
        rw [if_pos (by rfl)]
        go_simp
        exact hK _ W hG rfl (fun _ _ _ h => h)
      · have e10 := valsE_get (hp 10 (by decide)) rfl
        have e13 := valsE_get (hp 13 (by decide)) rfl
        have e14 := valsE_get (hp 14 (by decide)) rfl
        have hel := Hel.out
        simp only [e10, e13, e14] at hK ⊢
        rw [if_pos (by rfl)]
        go_simp
        exact hK _ W hG rfl (fun _ _ _ h => h)
      · have e10 := valsE_get (hp 10 (by decide)) rfl
        have e15 := valsE_get (hp 15 (by decide)) rfl
        have c2 := HC2.out W hG.below
        simp only [e10, e15] at hK ⊢
        rw [if_pos (by rfl)]
        go_simp
        exact hK _ W hG rfl (fun _ _ _ h => h)
      · have e10 := valsE_get (hp 10 (by decide)) rfl
        simp only [e10] at hK ⊢
        rw [if_pos (by rfl)]
        go_simp
        exact hK _ W hG rfl (fun _ _ _ h => h)
      · have e10 := valsE_get (hp 10 (by decide)) rfl
        have e17 := valsE_get (hp 17 (by decide)) rfl
        have y0 := hG.one.cell 0
        simp [RtM.cells] at y0
        rw [Hwn.out] at y0
        simp only [e10, e17] at hK ⊢
        rw [if_pos (by rfl)]
        go_simp
        exact hK _ W hG rfl (fun _ _ _ h => h)
      · have e10 := valsE_get (hp 10 (by decide)) rfl
        have e16 := valsE_get (hp 16 (by decide)) rfl
        have e18 := valsE_get (hp 18 (by decide)) rfl
        have hwl := Hwl.out
        simp only [e10, e16, e18] at hK ⊢
        rw [if_pos (by rfl)]
        go_simp
        exact hK _ W hG rfl (fun _ _ _ h => h)
      · have e10 := valsE_get (hp 10 (by decide)) rfl
        have e19 := valsE_get (hp 19 (by decide)) rfl
        have c3 := HC3.out W hG.below
        simp only [e10, e19] at hK ⊢
        rw [if_pos (by rfl)]
        go_simp
        exact hK _ W hG rfl (fun _ _ _ h => h)
      · have e10 := valsE_get (hp 10 (by decide)) rfl
        simp only [e10] at hK ⊢
        rw [if_pos (by rfl)]
        go_simp
        exact hK _ W hG rfl (fun _ _ _ h => h)
      · have e10 := valsE_get (hp 10 (by decide)) rfl
        have e20 := valsE_get (hp 20 (by decide)) rfl
        have e21 := valsE_get (hp 21 (by decide)) rfl
        have heq := Heq.out
        simp only [e10, e20, e21] at hK ⊢
        rw [if_pos (by rfl)]
        go_simp
        exact hK _ W hG rfl (fun _ _ _ h => h)
      · have e10 := valsE_get (hp 10 (by decide)) rfl
        have e22 := valsE_get (hp 22 (by decide)) rfl
        simp only [e10, e22] at hK ⊢
        rw [if_pos (by rfl)]
        go_simp
        exact hK _ W hG rfl (fun _ _ _ h => h)

end Go.Proofs.Ytjhkadffaephmab
