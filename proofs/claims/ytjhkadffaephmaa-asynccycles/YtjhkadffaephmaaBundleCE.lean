/-
  Our own texts, bundled: a claim holds few files.
-/
import Derived.Test.YtjhkadffaephmaaBundleCC
import Derived.Test.YtjhkadffaephmaaBundleBJ
import Derived.Test.YtjhkadffaephmaaBundleCA
import Derived.Test.YtjhkadffaephmaaBundleBI
/-
  signpostref.Used, RunOf.
-/
namespace Go.Proofs.Ytjhkadffaephmaa
set_option maxRecDepth 100000
open Go.RowKit

set_option maxHeartbeats 2000000 in
theorem refUsed_any (t : TurnM) (N k i v : Nat) (w : World) (ht : t.In w.heap.size w) (hok : t.Ok N) (hi : i < N) (hv : v < N) (hk : k ≤ 1000) :
    Calls Try.prog 92 #[t.val, .int .i64 ((k : Int) + 1), .int .i64 i, .int .i64 v] w fun e w' => e = .returned (.int .i64 ((((k : Int) + 1 - t.ages.t.Z i v).toNat : Nat) : Int)) ∧ Below w.heap.size w w' := by
  have hB0 : Below w.heap.size w (w.alloc (.cells t.cells 123)) := (Below.refl _ w).alloc (Nat.le_refl _) _
  have b0 := Blk.new w t.cells 123
  have hage := hok.age i hi v hv
  obtain ⟨a1, a2, a3⟩ := (ht.ages.below hB0 (Nat.le_refl _)).at (show i < t.ages.t.len by rw [hok.len]; exact hi) (show v < t.ages.t.L i by rw [hok.wide i hi]; exact hv)
  have h1 : (i : Int) < (t.ages.t.len : Int) := by have := hok.len; omega
  have h2 : (v : Int) < (t.ages.t.L i : Int) := by have := hok.wide i hi; omega
  have HB := hide hB0
  simp only [TurnM.val, TurnM.cells, Mat.val] at *
  rw [a1] at a2 a3 HB ⊢
  generalize t.ages.t.Z i v = z at *
  clear ht hok hB0 b0 a1
  by_cases hlt : (k : Int) + 1 - z < 0
  · have e : (((k : Int) + 1 - z).toNat : Int) = 0 := by omega
    rw [e]
    go_enter Try.func92, Try.ntmps92
    go_wp2
    go_ret
    exact ⟨rfl, HB.out⟩
  · have e : (((k : Int) + 1 - z).toNat : Int) = (k : Int) + 1 - z := by omega
    rw [e]
    go_enter Try.func92, Try.ntmps92
    go_wp2
    go_ret
    exact ⟨rfl, HB.out⟩

set_option maxHeartbeats 8000000 in
theorem runOf_any (n : NetM) (x : Mat) (s : SchedM) (w : World) (h : n.In w.heap.size w) (hx : x.In w.heap.size w) (hs : s.In w.heap.size w) (hp : n.net.Plays s.sched) (his : n.net.Is x.t) :
    Calls Try.prog 49 #[n.val, x.val, s.val] w fun e w' => (∃ (g cap : Nat) (ms : Nat → Mat), e = .returned (.slice (some ⟨g, 0, none⟩) (s.tn + 1) cap) ∧ Sts n.net.N g (s.tn + 1) ms (n.net.st s.sched x.t.Z) w') ∧ Below w.heap.size w w' := by
  have hck := hp.net
  have gd := Net.good_of_check hck
  have lo := gd.lo
  have hi6 := gd.hi
  obtain ⟨N, hN⟩ : ∃ N : Nat, n.nodes = N := ⟨n.nodes.toNat, by have : n.net.nodes = n.nodes := rfl; omega⟩
  have hNN : n.net.N = N := by show n.nodes.toNat = N; omega
  have hN6 : N ≤ 6 := by have : n.net.nodes = n.nodes := rfl; omega
  have hN1 : 0 < N := by have : n.net.nodes = n.nodes := rfl; omega
  have hmany : s.tn ≤ 200 := hp.many
  obtain ⟨i1, hi1, hy0, hy1, hy2⟩ := info_parts Try.infoInt
  obtain ⟨i2, hi2, hx0, hx1, hx2⟩ := info_parts Try.infoInts
  obtain ⟨i3, hi3, hu0, hu1, hu2⟩ := info_parts Try.infoState
  have hcells : n.cells = #[.int .i64 n.a.size, .slice n.a.B.ga n.a.B.t.len n.a.B.cap, .slice n.a.E.ga n.a.E.t.len n.a.E.cap, .int .i64 N, .slice n.la n.ln n.lc] := by simp only [NetM.cells, Mat.val, hN]
  have hval : n.val = .agg #[.int .i64 n.a.size, .slice n.a.B.ga n.a.B.t.len n.a.B.cap, .slice n.a.E.ga n.a.E.t.len n.a.E.cap, .int .i64 N, .slice n.la n.ln n.lc] := by rw [NetM.val, hcells]
  have HSt := hide (hp.st_state his.state)
  obtain ⟨Y, hY⟩ : ∃ Y, Y = n.net.st s.sched x.t.Z := ⟨_, rfl⟩
  have HStep : Hid (∀ k, k < s.tn → ∀ i, i < N → ∀ j, j < N → Y (k + 1) i j = if (s.turn k).act i = true then n.net.route i j (fun v => Y (((k : Int) + 1 - (s.turn k).ages.t.Z i v).toNat) v j) else Y k i j) := hide (fun k hk i hi j _ => by rw [hY]; exact Net.st_step hp hk i (by rw [hNN]; exact hi) j)
  have HOk := hide (fun k (hk : k < s.tn) => show (s.turn k).Ok N by rw [← hNN]; exact hp.ok hk)
  have HRt := hide (fun (i j g c : Nat) (f : Nat → Int) W (hb : Below w.heap.size w W) (hgl : g < W.heap.size) (hI : Ints (some ⟨g, 0, none⟩) N g 0 f W) (hf : ∀ r, r < N → 0 ≤ f r ∧ f r < n.net.a.size) =>
    routeOf_any n i j (some ⟨g, 0, none⟩) c g 0 f W (h.grown hb) hck (by rw [hNN]; exact hI) hgl (fun r hr => hf r (by rw [← hNN]; exact hr)))
  rw [hNN] at HRt
  have HStN : Hid (∀ r, r ≤ s.tn → ∀ i, i < N → ∀ j, j < N → 0 ≤ Y r i j ∧ Y r i j < n.net.a.size) := hide (fun r hr i hi j hj => by rw [hY]; exact HSt.out r hr i j (by rw [hNN]; exact hi) (by rw [hNN]; exact hj))
  have HS := hide (fun W (hb : Below w.heap.size w W) => hs.grown hb)
  have HTa := hide hs.ta
  rw [← hY, hNN]
  rw [hval] at HRt ⊢
  obtain ⟨W0, hW0⟩ : ∃ W0, W0 = w.alloc (.cells #[.int .i64 n.a.size, .slice n.a.B.ga n.a.B.t.len n.a.B.cap, .slice n.a.E.ga n.a.E.t.len n.a.E.cap, .int .i64 N, .slice n.la n.ln n.lc] 50) := ⟨_, rfl⟩
  have hb0 : Below w.heap.size w W0 := by rw [hW0]; exact (Below.refl _ w).alloc (Nat.le_refl _) _
  have B0 := hide hb0
  have Hb0 : Hid (Blk W0 w.heap.size #[.int .i64 n.a.size, .slice n.a.B.ga n.a.B.t.len n.a.B.cap, .slice n.a.E.ga n.a.E.t.len n.a.E.cap, .int .i64 N, .slice n.la n.ln n.lc] 50) := hide (by rw [hW0]; exact Blk.new w _ _)
  have hx0' : IsSt N (Y 0) x W0 := ⟨hx.grown hb0, by rw [his.len, hNN], fun i hi => by rw [his.wide i (by rw [hNN]; exact hi), hNN], fun i _ j _ => by rw [hY]; rfl⟩
  have HM := hide (OwnSts.first (Y := Y) hx0')
  simp only [Mat.val, SchedM.val] at HM ⊢
  clear hN hcells hval h hck hNN lo hi6 gd hx his hp hs hY HSt hb0 hx0'
  go_enter Try.func49, Try.ntmps49
  go_wp2_with fail
  rw [← hW0]
  have hsz0 : w.heap.size + 1 = W0.heap.size := by rw [hW0]; simp
  rw [hsz0]
  clear hW0 hsz0
  go_loopw [7, 8, 9, 10, 11, 12, 13, 14] (fun v q _ _ _ _ _ _ wr => ∃ (k g cap : Nat) (ms : Nat → Mat), k ≤ s.tn ∧ v = .slice (some ⟨g, 0, none⟩) (k + 1) cap ∧ q = .int .i64 ((k : Int) + 1) ∧ Hid (OwnSts W0.heap.size N g (k + 1) cap ms Y wr) ∧ Hid (Below W0.heap.size W0 wr)) (fun _ q _ _ _ _ _ _ _ => s.tn + 1 - (intOf q).toNat)
  case atStart => exact ⟨0, _, _, _, Nat.zero_le _, rfl, rfl, HM, hide ((Below.refl _ W0).alloc (Nat.le_refl _) _)⟩
  case round =>
    obtain ⟨k, g, cap, ms, hk, rfl, rfl, HO, HB⟩ := hrel
    by_cases hlt : k < s.tn
    · have hki : (k : Int) + 1 ≤ (s.tn : Int) := by omega
      have hki' : (k : Int) < (s.tn : Int) := by omega
      obtain ⟨W1, hW1⟩ : ∃ W1, W1 = wr := ⟨wr, rfl⟩
      rw [← hW1] at HO HB
      go_wp2_with fail
      rw [← hW1]
      clear hW1
      have HW1 := hide (B0.out.trans (HB.out.mono B0.out.size))
      have Hb1 := hide (Hb0.out.below HB.out Hb0.out.lt)
      have HO1 := HO
      have hglt := (HO.out.row.lt g rfl).2
      have Hact := hide (HStep.out k hlt)
      clear HO HM
      go_loopw [9, 10, 11, 12, 13, 14] (fun v q _ _ _ _ wr => ∃ i : Nat, i ≤ N ∧ q = .int .i64 i ∧ Hid (OwnTab W1.heap.size wr.heap.size v i N (Y (k + 1)) wr) ∧ Hid (Below W1.heap.size W1 wr)) (fun _ q _ _ _ _ _ => N - (intOf q).toNat)
      case atStart => exact ⟨0, Nat.zero_le _, rfl, hide (OwnTab.nil _ _ _ _ _), hide (Below.refl _ _)⟩
      case round =>
        obtain ⟨i, hi, rfl, HT, HBi⟩ := hrel
        have bN := Hb1.out.below HBi.out Hb1.out.lt
        have x3 := bN.cell 3
        simp at x3
        by_cases hil : i < N
        · have hii : (i : Int) < (N : Int) := by omega
          obtain ⟨Vo, hVo⟩ : ∃ Vo, Vo = u9 := ⟨_, rfl⟩
          obtain ⟨H, hH⟩ : ∃ H, H = wr.heap.size := ⟨_, rfl⟩
          have HI0 : Hid (RndI W1 N (Y (k + 1)) Vo i H (.slice none 0 0) 0 wr) := hide (by
            rw [hVo, hH]
            exact ⟨HBi.out, HT.out, HBi.out.size, Nat.le_refl _, World.ownsRow_nil wr _ _ 1⟩)
          clear HT HBi bN
          go_wp2_with fail
          rw [← hVo]
          clear hVo hH x3
          go_loopw [11, 12, 13, 14] (fun v q _ _ wr => ∃ j : Nat, j ≤ N ∧ q = .int .i64 j ∧ Hid (RndI W1 N (Y (k + 1)) Vo i H v j wr)) (fun _ q _ _ _ => N - (intOf q).toNat)
          case atStart => exact ⟨0, Nat.zero_le _, rfl, HI0⟩
          case round =>
            clear HI0
            obtain ⟨j, hj, rfl, HJ⟩ := hrel
            obtain ⟨Vr, hVr⟩ : ∃ Vr, Vr = u11 := ⟨_, rfl⟩
            have bN := Hb1.out.below HJ.out.below Hb1.out.lt
            have x3 := bN.cell 3
            simp at x3
            by_cases hjl : j < N
            · have hji : (j : Int) < (N : Int) := by omega
              have hIw := HS.out wr (HW1.out.trans (HJ.out.below.mono HW1.out.size))
              have hok := HOk.out k hlt
              have hta := HTa.out (by omega)
              have c0 := hIw.c0 k hlt
              have c1 := hIw.c1 k hlt
              rw [Mat.val] at c1
              have hE := hIw.each k hlt
              have hian : i < (s.turn k).an := by rw [hok.an]; exact hil
              have haa := hE.aa (by omega)
              have hcell := hE.cell i hian
              have hia : (i : Int) < ((s.turn k).an : Int) := by omega
              rw [haa] at c0
              have hOr := HO1.out.grown HJ.out.below
              have hsg := HJ.out.below.size
              by_cases hac : (s.turn k).act i = true
              · rw [hac] at hcell
                obtain ⟨F, hF⟩ : ∃ F : Nat → Int, F = fun v => Y (((k : Int) + 1 - (s.turn k).ages.t.Z i v).toNat) v j := ⟨_, rfl⟩
                have HF : Hid (∀ v, F v = Y (((k : Int) + 1 - (s.turn k).ages.t.Z i v).toNat) v j) := hide (fun v => by rw [hF])
                have HRn : Hid (n.net.route i j F = Y (k + 1) i j) := hide (by rw [Hact.out i hil j hjl, if_pos hac, hF])
                have hUs : ∀ v, v < N → (((k : Int) + 1 - (s.turn k).ages.t.Z i v).toNat) < k + 1 := fun v hv => by have := hok.age i hil v hv; omega
                have HUs := hide hUs
                have HFr : Hid (∀ r, r < N → 0 ≤ F r ∧ F r < n.net.a.size) := hide (fun r hr => by rw [hF]; exact HStN.out _ (by have := hUs r hr; omega) r hr j hjl)
                have HJ1 := HJ
                have hHi := HJ.out.hi
                obtain ⟨Wj, hWj⟩ : ∃ Wj, Wj = wr := ⟨wr, rfl⟩
                rw [← hVr] at HJ1
                rw [← hWj] at HJ1 hHi hsg
                clear HJ hac hOr hE hIw bN haa hF hUs
                go_wp2_with fail
                rw [← hWj, ← hVr]
                clear hWj hVr c0 c1 hcell x3
                go_loopw [13, 14] (fun v q wr => ∃ t : Nat, t ≤ N ∧ q = .int .i64 t ∧ Hid (wr.ownsRow Wj.heap.size 3 1 v t (intsL F t)) ∧ Hid (Below Wj.heap.size Wj wr)) (fun _ q _ => N - (intOf q).toNat)
                case atStart => exact ⟨0, Nat.zero_le _, rfl, hide (World.ownsRow_nil Wj _ _ 1), hide (Below.refl _ _)⟩
                case round =>
                  obtain ⟨t, ht, rfl, HH, HBt⟩ := hrel
                  have hB1t := HJ1.out.below.trans (HBt.out.mono hsg)
                  have bN := Hb1.out.below hB1t Hb1.out.lt
                  have x0 := bN.cell 0
                  have x1 := bN.cell 1
                  have x2 := bN.cell 2
                  have x3 := bN.cell 3
                  have x4 := bN.cell 4
                  simp at x0 x1 x2 x3 x4
                  have hBwt := HW1.out.trans (hB1t.mono HW1.out.size)
                  by_cases htN : t < N
                  · have hti : (t : Int) < (N : Int) := by omega
                    have hIw := HS.out wr hBwt
                    have c0 := hIw.c0 k hlt
                    have c1 := hIw.c1 k hlt
                    rw [Mat.val] at c1
                    have HUse := hide (refUsed_any (s.turn k) N k i t wr (hIw.each k hlt) hok hil htN (by omega))
                    have hul := HUs.out t htN
                    have hFt := HF.out t
                    generalize (((k : Int) + 1 - (s.turn k).ages.t.Z i t).toNat) = us at *
                    simp only [TurnM.val, TurnM.cells, Mat.val] at HUse
                    clear hIw x0 x1 x2 x4 bN
                    go_wp2_with fail
                    go_at_call 92
                    refine HUse.out.mono ?_
                    rintro e w2 ⟨rfl, hb2⟩
                    have hO2 := HO1.out.grown (hB1t.trans (hb2.mono hB1t.size))
                    have hIs := hO2.each us hul
                    have e1 := hO2.sts.cell us hul
                    obtain ⟨a1, a2, a3⟩ := hIs.mem.at (show t < (ms us).t.len by rw [hIs.len]; exact htN) (show j < (ms us).t.L t by rw [hIs.wide t htN]; exact hjl)
                    rw [hIs.val t htN j hjl, ← hFt] at a3
                    rw [Mat.val, a1, hIs.len] at e1
                    rw [hIs.wide t htN] at a2
                    have hui : (us : Int) < (k : Int) + 1 := by omega
                    have HH2 := hide (owns_below HH.out hb2)
                    have HB2 := hide (HBt.out.trans (hb2.mono HBt.out.size))
                    have hs2 := HB2.out.size
                    clear HUse hO2 hIs a1 c0 c1 HH HBt hb2 x3 hFt
                    go_wp2_with (at_builtin; refine wpList_append_lies _ rfl _ _ _ rfl Wj.heap.size 3 i1 _ 1 8 Try.underlying32 hi1 hy0 hy1 hy2 rfl (by decide) _ t _ rfl (HH2.out.alloc _) ⟨w2.heap.size, 0, none⟩ 1 1 [.int .i64 (F t)] rfl rfl ?c1 ?c2 (by decide) ?c3 ?c4 ?c5 _ rfl ?_)
                    case c1 => exact World.news_of_block (Blk.new' (by simp))
                    case c2 => simp [Value.oneCell']
                    case c3 => unfold maxLen; omega
                    case c4 => omega
                    case c5 => simp; omega
                    intro g' cap' w5 hown2 hgrow hat2 hlt2
                    have HO5 := hide (show w5.ownsRow Wj.heap.size 3 1 _ (t + 1) (intsL F (t + 1)) by rw [intsL_succ]; exact hown2)
                    have HB5 := hide ((HB2.out.alloc hs2 _).trans (grown_below hgrow (fun g hg => (HH2.out.lt g hg).1) (by simp; omega)))
                    clear hown2 hgrow hat2 hlt2 HH2 HB2 e1 a2 a3
                    go_wp2
                    go_roundw
                    case rel =>
                      first
                      | exact ⟨t + 1, by omega, by go_num, HO5, HB5⟩
                      | ((repeat apply Exists.intro); refine ⟨?_, rfl⟩; exact ⟨t + 1, by omega, by go_num, HO5, HB5⟩)
                      | (rw [← hta]; (repeat apply Exists.intro); refine ⟨?_, rfl⟩; exact ⟨t + 1, by omega, by go_num, HO5, HB5⟩)
                    case measure => simp [intOf]; omega
                  · have htn : t = N := by omega
                    subst htn
                    have hti : (t : Int) ≤ (t : Int) := Int.le_refl _
                    obtain ⟨gh, ch, rfl, _, hglh⟩ := HH.out.form (by omega)
                    have hIn : Ints (some ⟨gh, 0, none⟩) t gh 0 F wr := ⟨fun _ => rfl, fun r hr => by rw [Nat.zero_add, HH.out.cellAt r (by omega), intsL_get hr], by unfold maxLen; omega⟩
                    have HRo := hide (HRt.out i j gh ch F wr hBwt hglh hIn HFr.out)
                    rw [HRn.out] at HRo
                    have HJ2 := hide (HJ1.out.keep HBt.out)
                    clear hIn bN HH HBt hB1t hBwt
                    go_wp2_with fail
                    go_at_call 77
                    refine HRo.out.mono ?_
                    rintro e w2 ⟨rfl, hb2⟩
                    have HJ3 := hide (HJ2.out.keep hb2)
                    have HJr := hide HJ3.out.row
                    have hHi3 := HJ3.out.hi
                    clear HRo HJ2 hb2 x0 x1 x2 x3 x4
                    go_wp2_with (at_builtin; refine wpList_append_lies _ rfl _ _ _ rfl H 3 i1 _ 1 8 Try.underlying32 hi1 hy0 hy1 hy2 rfl (by decide) _ j _ rfl (HJr.out.alloc _) ⟨w2.heap.size, 0, none⟩ 1 1 [.int .i64 (Y (k + 1) i j)] rfl rfl ?c1 ?c2 (by decide) ?c3 ?c4 ?c5 _ rfl ?_)
                    case c1 => exact World.news_of_block (Blk.new' (by simp))
                    case c2 => simp [Value.oneCell']
                    case c3 => unfold maxLen; omega
                    case c4 => omega
                    case c5 => simp; omega
                    intro g' cap' w5 hown2 hgrow hat2 hlt2
                    have HJ5 := hide ((HJ3.out.keep ((Below.refl _ w2).alloc (Nat.le_refl _) (.cells #[.int .i64 (Y (k + 1) i j)] 3))).push hgrow hown2)
                    clear hown2 hgrow hat2 hlt2 HJ3 HJr
                    go_wp2
                    go_roundw
                    case rel =>
                      first
                      | exact ⟨j + 1, by omega, by go_num, HJ5⟩
                      | ((repeat apply Exists.intro); refine ⟨?_, rfl⟩; exact ⟨j + 1, by omega, by go_num, HJ5⟩)
                      | (rw [← hta]; (repeat apply Exists.intro); refine ⟨?_, rfl⟩; exact ⟨j + 1, by omega, by go_num, HJ5⟩)
                    case measure => simp [intOf]; omega
              · have hac' : (s.turn k).act i = false := by simpa using hac
                rw [hac'] at hcell
                have hz : Y k i j = Y (k + 1) i j := by rw [Hact.out i hil j hjl, if_neg hac]
                have hIs := hOr.each k (by omega)
                have e1 := hOr.sts.cell k (by omega)
                obtain ⟨a1, a2, a3⟩ := hIs.mem.at (show i < (ms k).t.len by rw [hIs.len]; exact hil) (show j < (ms k).t.L i by rw [hIs.wide i hil]; exact hjl)
                rw [hIs.val i hil j hjl, hz] at a3
                rw [Mat.val, a1, hIs.len] at e1
                rw [hIs.wide i hil] at a2
                have hkk : ((k + 1 : Nat) : Int) = (k : Int) + 1 := by omega
                have HJr := hide HJ.out.row
                have hHi := HJ.out.hi
                clear hac hz hIs hOr hE hIw a1 bN haa hok
                go_wp2_with (at_builtin; refine wpList_append_lies _ rfl _ _ _ rfl H 3 i1 _ 1 8 Try.underlying32 hi1 hy0 hy1 hy2 rfl (by decide) _ j _ rfl (HJr.out.alloc _) ⟨wr.heap.size, 0, none⟩ 1 1 [.int .i64 (Y (k + 1) i j)] rfl rfl ?c1 ?c2 (by decide) ?c3 ?c4 ?c5 _ rfl ?_)
                case c1 => exact World.news_of_block (Blk.new' (by simp))
                case c2 => simp [Value.oneCell']
                case c3 => unfold maxLen; omega
                case c4 => omega
                case c5 => simp; omega
                intro g' cap' w5 hown2 hgrow hat2 hlt2
                have HJ2 := hide ((HJ.out.keep ((Below.refl _ wr).alloc (Nat.le_refl _) (.cells #[.int .i64 (Y (k + 1) i j)] 3))).push hgrow hown2)
                clear hown2 hgrow hat2 hlt2 HJ HJr hVr c0 c1 e1 a2 a3 hcell x3
                go_wp2
                go_roundw
                case rel =>
                  first
                  | exact ⟨j + 1, by omega, by go_num, HJ2⟩
                  | ((repeat apply Exists.intro); refine ⟨?_, rfl⟩; exact ⟨j + 1, by omega, by go_num, HJ2⟩)
                  | (rw [← hta]; (repeat apply Exists.intro); refine ⟨?_, rfl⟩; exact ⟨j + 1, by omega, by go_num, HJ2⟩)
                case measure => simp [intOf]; omega
            · have hjn : j = N := by omega
              have hji : (N : Int) ≤ (j : Int) := by omega
              subst hjn
              clear hVr Vr
              obtain ⟨gn, cn, rfl, _, hgl⟩ := HJ.out.row.form (by omega)
              obtain ⟨gg, c, k1, k2, k3, k4⟩ := HJ.out.tab
              have hHi := HJ.out.hi
              have hlo := HJ.out.lo
              have HRow := hide HJ.out.row
              have HBl := hide HJ.out.below
              have hsz := HJ.out.below.size
              have Hk1 := hide k1
              have Hk3 := hide k3
              clear HJ k1 k3
              go_wp2_with (at_builtin; refine wpList_append_lies _ rfl _ _ _ rfl W1.heap.size 32 i2 _ 1 24 Try.underlying22 hi2 hx0 hx1 hx2 rfl (by decide) _ i _ rfl (Hk1.out.alloc _) ⟨wr.heap.size, 0, none⟩ 1 1 [.slice (some ⟨gn, 0, none⟩) j cn] rfl rfl ?c1 ?c2 (by decide) ?c3 ?c4 ?c5 _ rfl ?_)
              all_goals try (case c1 => exact World.news_of_block (Blk.new' (by simp)))
              all_goals try (case c2 => simp [Value.oneCell'])
              all_goals try (case c3 => unfold maxLen; omega)
              all_goals try (case c4 => omega)
              all_goals try (case c5 => simp; omega)
              intro g' cap' w2 hown2 hgrow hat2 hlt2
              have hnew := OwnTab.push (Hk1.out.alloc (.cells #[.slice (some ⟨gn, 0, none⟩) j cn] 32)) k2 (fun r hr => ⟨(Hk3.out r hr).1.alloc _, (Hk3.out r hr).2⟩) k4 hlo (HRow.out.alloc _) hown2 hgrow (by simpa using hat2)
              have HT2 := hide hnew
              have HB2 := hide ((HBl.out.alloc HBl.out.size _).trans (grown_below hgrow (fun q hq => (Hk1.out.lt q hq).1) (by simp; omega)))
              clear hown2 hgrow hat2 hlt2 hnew Hk1 Hk3 k2 k4 HRow HBl
              go_wp2
              go_roundw
              case rel =>
                first
                | exact ⟨i + 1, by omega, by go_num, HT2, HB2⟩
                | ((repeat apply Exists.intro); refine ⟨?_, rfl⟩; exact ⟨i + 1, by omega, by go_num, HT2, HB2⟩)
              case measure => simp [intOf]; omega
        · have hin : i = N := by omega
          subst hin
          have hii : (i : Int) ≤ (i : Int) := Int.le_refl _
          obtain ⟨m, e1, e2, e3, e4⟩ := HT.out.mat (by omega) (by omega)
          have HSm : Hid (IsSt i (Y (k + 1)) m wr) := hide ⟨e3, by rw [e2], fun _ _ => by rw [e2], fun _ _ _ _ => by rw [e2]⟩
          have HOff := hide (e4.off hglt)
          have HOw := hide (HO1.out.grown HBi.out)
          have HBw := hide (HB.out.trans (HBi.out.mono HB.out.size))
          have hs4 := HBw.out.size
          subst e1
          clear e2 e3 e4 HT bN HBi HO1 HB
          rw [Mat.val]
          go_wp2_with (at_builtin; refine wpList_append_lies _ rfl _ _ _ rfl W0.heap.size 22 i3 _ 1 24 Try.underlying68 hi3 hu0 hu1 hu2 rfl (by decide) _ (k + 1) _ rfl (HOw.out.row.alloc _) ⟨wr.heap.size, 0, none⟩ 1 1 [.slice m.ga m.t.len m.cap] rfl rfl ?c1 ?c2 (by decide) ?c3 ?c4 ?c5 _ rfl ?_)
          case c1 => exact World.news_of_block (Blk.new' (by simp))
          case c2 => simp [Value.oneCell']
          case c3 => unfold maxLen; omega
          case c4 => omega
          case c5 => simp; omega
          intro g' cap' w5 hown2 hgrow hat2 hlt2
          have hB5 := hide ((HBw.out.alloc hs4 _).trans (grown_below hgrow (fun g hg => (HOw.out.row.lt g hg).1) (by simp; omega)))
          have hbq : Below wr.heap.size wr (wr.alloc (.cells #[.slice m.ga m.t.len m.cap] 22)) := (Below.refl _ wr).alloc (Nat.le_refl _) _
          obtain ⟨ms', hms⟩ := (HOw.out.grown hbq).push (HSm.out.grown hbq) HOff.out hown2 hgrow (by simpa [Value.ownBlock] using hat2)
          have HO5 := hide hms
          clear hown2 hgrow hat2 hlt2 hms hbq HOw HBw HSm HOff
          go_wp2
          go_roundw
          case rel =>
            first
            | exact ⟨k + 1, _, _, _, by omega, rfl, by go_num, HO5, hB5⟩
            | ((repeat apply Exists.intro); refine ⟨?_, rfl⟩; exact ⟨k + 1, _, _, _, by omega, rfl, by go_num, HO5, hB5⟩)
          case measure => simp [intOf]; omega
    · have hkn : k = s.tn := by omega
      subst hkn
      have hki : ¬ ((s.tn : Int) + 1 ≤ (s.tn : Int)) := by omega
      have HSf := hide HO.out.sts
      have HBf := hide (B0.out.trans (HB.out.mono B0.out.size))
      clear HO HB
      go_wp2
      exact bodyPost_ret (v := .slice (some ⟨g, 0, none⟩) (s.tn + 1) cap) (by simp [results, Try.results49, go_sem]) rfl ⟨⟨g, ⟨cap, rfl⟩, ⟨ms, HSf.out⟩⟩, HBf.out⟩

end Go.Proofs.Ytjhkadffaephmaa

/-
  signpostref.CheckTurns.
-/
namespace Go.Proofs.Ytjhkadffaephmaa
set_option maxRecDepth 100000
open Go.RowKit

set_option maxHeartbeats 4000000 in
theorem checkTurns_any (n : NetM) (s : SchedM) (w : World) (h : n.In w.heap.size w) (hs : s.In w.heap.size w) :
    Calls Try.prog 45 #[n.val, s.val] w fun e w' => e = .returned (.int .i64 (n.net.turns s.sched)) ∧ Below w.heap.size w w' := by
  have hlen := hs.len
  unfold maxLen at hlen
  have hB0 : Below w.heap.size w (w.alloc (.cells n.cells 50)) := (Below.refl _ w).alloc (Nat.le_refl _) _
  have b0 := Blk.new w n.cells 50
  have HC := hide (refNet_any n _ (h.grown hB0))
  have Hdef : Hid (n.net.turns s.sched = if n.net.check ≠ 0 then n.net.check else if 200 < s.tn then 2 else firstErr (n.net.turnErr s.sched) s.tn) := hide rfl
  have Hte : Hid (∀ k, n.net.turnErr s.sched k = if ((s.turn k).an : Int) ≠ n.nodes ∨ ((s.turn k).ages.t.len : Int) ≠ n.nodes ∨ (s.turn k).ages.t.wide n.nodes = false then 1 else if (s.turn k).ages.t.agesOk = false then 3 else 0) := hide (fun _ => rfl)
  have HG := hide (fun (h0 : n.net.check = 0) => Net.good_of_check h0)
  have HS := hide hs
  generalize n.net.check = ck at *
  clear h hs
  simp only [NetM.val, NetM.cells, Mat.val, SchedM.val] at HC b0 hB0 ⊢
  go_enter Try.func45, Try.ntmps45
  go_wp2_with fail
  go_at_call 33
  refine HC.out.mono ?_
  rintro e w1 ⟨rfl, hb1⟩
  have hB1 := hB0.trans (hb1.mono hB0.size)
  have b1 := b0.below hb1 b0.lt
  clear HC hB0 b0 hb1
  by_cases hc : ck = 0
  rotate_left
  · have hfin : Hid (n.net.turns s.sched = ck) := hide (by rw [Hdef.out, if_pos hc])
    have hc' : (ck == 0) = false := by simp [hc]
    have HB := hide hB1
    clear Hdef hc hB1 HG Hte HS
    go_wp2_with fail
    go_loopw [6, 7, 8, 9] (fun q _ _ _ wr => q = .int .i64 0 ∧ wr = w1) (fun _ _ _ _ _ => 0)
    case atStart => exact ⟨rfl, rfl⟩
    case round =>
      obtain ⟨rfl, rfl⟩ := hrel
      by_cases h0 : (0 : Int) < (s.tn : Int)
      · go_wp2
        go_ret
        exact ⟨by rw [hfin.out]; rfl, HB.out⟩
      · go_wp2
        go_ret
        exact ⟨by rw [hfin.out]; rfl, HB.out⟩
  subst hc
  by_cases hm : 200 < s.tn
  · have hm' : (200 : Int) < (s.tn : Int) := by omega
    have h0 : (0 : Int) < (s.tn : Int) := by omega
    have hfin : Hid (n.net.turns s.sched = 2) := hide (by rw [Hdef.out, if_neg (by simp), if_pos hm])
    have HB := hide hB1
    clear Hdef hB1 HG Hte HS
    go_wp2_with fail
    go_loopw [6, 7, 8, 9] (fun q _ _ _ wr => q = .int .i64 0 ∧ wr = w1) (fun _ _ _ _ _ => 0)
    case atStart => exact ⟨rfl, rfl⟩
    case round =>
      obtain ⟨rfl, rfl⟩ := hrel
      go_wp2
      go_ret
      exact ⟨by rw [hfin.out]; rfl, HB.out⟩
  have hm' : ¬ ((200 : Int) < (s.tn : Int)) := by omega
  have Hd2 : Hid (n.net.turns s.sched = firstErr (n.net.turnErr s.sched) s.tn) := hide (by rw [Hdef.out, if_neg (by simp), if_neg hm])
  have HB1 := hide hB1
  have lo := (HG.out rfl).lo
  have hi6 := (HG.out rfl).hi
  obtain ⟨N, hN⟩ : ∃ N : Nat, n.nodes = N := ⟨n.nodes.toNat, by have : n.net.nodes = n.nodes := rfl; omega⟩
  have hN6 : N ≤ 6 := by have : n.net.nodes = n.nodes := rfl; omega
  have HI := hide (HS.out.grown hB1)
  have x3 : w1.cell? ⟨w.heap.size, 3, none⟩ = some (.int .i64 N) := by rw [← hN]; exact b1.cell 3
  rw [hN] at Hte
  clear Hdef hB1 HG HS b1 lo hi6
  go_wp2_with fail
  go_loopw [6, 7, 8, 9] (fun q _ _ _ wr => ∃ k : Nat, k ≤ s.tn ∧ q = .int .i64 k ∧ Hid (∀ r, r < k → n.net.turnErr s.sched r = 0) ∧ Hid (∃ z, wr = w1.drewN z)) (fun q _ _ _ _ => s.tn - (intOf q).toNat)
  case atStart => exact ⟨0, Nat.zero_le _, rfl, hide fun r hr => absurd hr (Nat.not_lt_zero _), hide ⟨0, rfl⟩⟩
  case round =>
    obtain ⟨k, hk, rfl, Hall, HD⟩ := hrel
    by_cases hlt : k < s.tn
    rotate_left
    · have hki : ¬ ((k : Int) < (s.tn : Int)) := by omega
      have hkn : k = s.tn := by omega
      have hfin : Hid (n.net.turns s.sched = 0) := hide (by rw [Hd2.out]; exact firstErr_zero.2 (fun r hr => Hall.out r (by omega)))
      go_wp2
      go_ret
      exact ⟨by rw [hfin.out]; rfl, by obtain ⟨m, rfl⟩ := HD.out; exact below_drewN HB1.out m⟩
    have hki : (k : Int) < (s.tn : Int) := by omega
    have hta := HI.out.ta (by omega)
    have hE := HI.out.each k hlt
    have hal := hE.len
    have hal2 := hE.ages.len
    unfold maxLen at hal hal2
    have c0 : wr.cell? ⟨s.tb, s.off + k * 2, none⟩ = some (.slice (s.turn k).ag (s.turn k).an (s.turn k).ac) := by obtain ⟨z, rfl⟩ := HD.out; exact HI.out.c0 k hlt
    have c1 : wr.cell? ⟨s.tb, s.off + k * 2 + 1, none⟩ = some (.slice (s.turn k).ages.ga (s.turn k).ages.t.len (s.turn k).ages.cap) := by obtain ⟨z, rfl⟩ := HD.out; exact HI.out.c1 k hlt
    have y3 : wr.cell? ⟨w.heap.size, 3, none⟩ = some (.int .i64 N) := by obtain ⟨z, rfl⟩ := HD.out; exact x3
    have Hne : Hid (n.net.turnErr s.sched k ≠ 0 → n.net.turns s.sched = n.net.turnErr s.sched k) := hide (fun hne => Hd2.out.trans (firstErr_at hlt Hall.out hne))
    have Htk := hide (Hte.out k)
    have HAge := hide hE.ages
    clear hE
    by_cases ha : ((s.turn k).an : Int) = N
    rotate_left
    · have ha' : (((s.turn k).an : Int) != (N : Int)) = true := by simp [ha]
      have hfin : Hid (n.net.turns s.sched = 1) := hide (by
        have e1 : n.net.turnErr s.sched k = 1 := by rw [Htk.out, if_pos (Or.inl ha)]
        rw [Hne.out (by rw [e1]; decide), e1])
      clear ha Hne Htk
      go_wp2_with fail
      go_quiet (fail)
      go_wp2
      go_ret
      exact ⟨by rw [hfin.out]; rfl, by obtain ⟨m, rfl⟩ := HD.out; exact below_drewN (below_drewN HB1.out m) _⟩
    have ha' : (((s.turn k).an : Int) != (N : Int)) = false := by simp [ha]
    have Ha := hide ha
    clear ha
    by_cases hl : ((s.turn k).ages.t.len : Int) = N
    rotate_left
    · have hl' : (((s.turn k).ages.t.len : Int) != (N : Int)) = true := by simp [hl]
      have hfin : Hid (n.net.turns s.sched = 1) := hide (by
        have e1 : n.net.turnErr s.sched k = 1 := by rw [Htk.out, if_pos (Or.inr (Or.inl hl))]
        rw [Hne.out (by rw [e1]; decide), e1])
      clear hl Hne Htk
      go_wp2_with fail
      go_quiet (fail)
      go_wp2
      go_ret
      exact ⟨by rw [hfin.out]; rfl, by obtain ⟨m, rfl⟩ := HD.out; exact below_drewN (below_drewN HB1.out m) _⟩
    have hl' : (((s.turn k).ages.t.len : Int) != (N : Int)) = false := by simp [hl]
    have Hl := hide hl
    clear hl
    go_wp2_with fail
    go_quiet (fail)
    go_wp2_with fail
    generalize hWr : World.drewN _ _ = W2
    have HD2 : Hid (∃ z, W2 = w1.drewN z) := hide (by obtain ⟨m, rfl⟩ := HD.out; exact ⟨_, by rw [← hWr, World.drewN_drewN]⟩)
    have HC1 : Hid (∀ z, (w1.drewN z).cell? ⟨s.tb, s.off + k * 2 + 1, none⟩ = some (.slice (s.turn k).ages.ga (s.turn k).ages.t.len (s.turn k).ages.cap)) := hide (fun _ => HI.out.c1 k hlt)
    clear hWr HD c0 c1 y3 ha' hl'
    generalize (s.turn k).ages = m at *
    go_loopw [7] (fun q wr => ∃ i : Nat, i ≤ N ∧ q = .int .i64 i ∧ Hid (∀ r, r < i → (m.t.L r : Int) = N) ∧ Hid (∃ z, wr = w1.drewN z)) (fun q _ => N - (intOf q).toNat)
    case atStart => exact ⟨0, Nat.zero_le _, rfl, hide fun r hr => absurd hr (Nat.not_lt_zero _), HD2⟩
    case round =>
      obtain ⟨i, hi, rfl, Hrows, HD⟩ := hrel
      have y3 : wr.cell? ⟨w.heap.size, 3, none⟩ = some (.int .i64 N) := by obtain ⟨z, rfl⟩ := HD.out; exact x3
      by_cases hiN : i < N
      · have hii : (i : Int) < (N : Int) := by omega
        have hil : i < m.t.len := by have := Hl.out; omega
        have hil' : (i : Int) < (m.t.len : Int) := by omega
        have c1 : wr.cell? ⟨s.tb, s.off + k * 2 + 1, none⟩ = some (.slice m.ga m.t.len m.cap) := by obtain ⟨z, rfl⟩ := HD.out; exact HC1.out z
        have hga := HAge.out.ga (by omega)
        have hrow : wr.cell? ⟨m.gb, m.go + i, none⟩ = some (.slice (m.A i) (m.t.L i) (m.C i)) := by obtain ⟨z, rfl⟩ := HD.out; exact HAge.out.row i hil
        have hlens := HAge.out.lens i hil
        unfold maxLen at hlens
        rw [hga] at c1
        by_cases he : (m.t.L i : Int) = N
        · have he' : ((m.t.L i : Int) != (N : Int)) = false := by simp [he]
          have Hn : Hid (∀ r, r < i + 1 → (m.t.L r : Int) = N) := hide (fun r hr => by
            by_cases e : r = i
            · subst e; exact he
            · exact Hrows.out r (by omega))
          clear he
          go_wp2_with fail
          go_quiet (fail)
          go_wp2
          go_roundw
          case rel =>
            first
            | exact ⟨i + 1, by omega, by go_num, Hn, hide (by obtain ⟨m, rfl⟩ := HD.out; exact ⟨_, by rw [World.drewN_drewN]⟩)⟩
            | ((try rw [← hta]); (repeat apply Exists.intro); refine ⟨?_, rfl⟩; exact ⟨i + 1, by omega, by go_num, Hn, hide (by obtain ⟨m, rfl⟩ := HD.out; exact ⟨_, by rw [World.drewN_drewN]⟩)⟩)
          case measure => simp [intOf]; omega
        · have he' : ((m.t.L i : Int) != (N : Int)) = true := by simp [he]
          have hfin : Hid (n.net.turns s.sched = 1) := hide (by
            have e1 : n.net.turnErr s.sched k = 1 := by rw [Htk.out, if_pos (Or.inr (Or.inr (Tab.wide_false hil he)))]
            rw [Hne.out (by rw [e1]; decide), e1])
          clear he Hne Htk
          go_wp2_with fail
          go_quiet (fail)
          go_wp2
          go_ret
          exact ⟨by rw [hfin.out]; rfl, by obtain ⟨m, rfl⟩ := HD.out; exact below_drewN (below_drewN HB1.out m) _⟩
      · have hii : ¬ ((i : Int) < (N : Int)) := by omega
        have Hw2 : Hid (∀ r, r < m.t.len → (m.t.L r : Int) = N) := hide (fun r hr => Hrows.out r (by have := Hl.out; omega))
        have Hw : Hid (m.t.wide N = true) := hide ((m.t.wide_iff N).2 Hw2.out)
        have Ht2 : Hid (n.net.turnErr s.sched k = if m.t.agesOk = false then 3 else 0) := hide (by rw [Htk.out, if_neg (by simp [Ha.out, Hl.out, Hw.out])])
        clear Hrows Hw Htk
        obtain ⟨W3, hW3⟩ : ∃ W3, W3 = wr := ⟨wr, rfl⟩
        have HD3 : Hid (∃ z, W3 = w1.drewN z) := by rw [hW3]; exact HD
        go_wp2_with fail
        rw [← hW3]
        clear hW3 HD y3
        go_loopw [8, 9] (fun q _ wr => ∃ r : Nat, r ≤ N ∧ q = .int .i64 r ∧ Hid (∀ r', r' < r → ∀ c, c < m.t.L r' → 1 ≤ m.t.Z r' c ∧ m.t.Z r' c ≤ 20) ∧ Hid (∃ z, wr = w1.drewN z)) (fun q _ _ => N - (intOf q).toNat)
        case atStart => exact ⟨0, Nat.zero_le _, rfl, hide fun r hr => absurd hr (Nat.not_lt_zero _), HD3⟩
        case round =>
          obtain ⟨r, hr, rfl, Hok, HD⟩ := hrel
          have y3 : wr.cell? ⟨w.heap.size, 3, none⟩ = some (.int .i64 N) := by obtain ⟨z, rfl⟩ := HD.out; exact x3
          by_cases hrN : r < N
          · have hri : (r : Int) < (N : Int) := by omega
            have hrl : r < m.t.len := by have := Hl.out; omega
            have hrl' : (r : Int) < (m.t.len : Int) := by omega
            have hLr : m.t.L r = N := by have := Hw2.out r hrl; omega
            obtain ⟨W4, hW4⟩ : ∃ W4, W4 = wr := ⟨wr, rfl⟩
            have HD4 : Hid (∃ z, W4 = w1.drewN z) := by rw [hW4]; exact HD
            go_wp2_with fail
            rw [← hW4]
            clear hW4 HD y3
            go_loopw [9] (fun q wr => ∃ c : Nat, c ≤ N ∧ q = .int .i64 c ∧ Hid (∀ c', c' < c → 1 ≤ m.t.Z r c' ∧ m.t.Z r c' ≤ 20) ∧ Hid (∃ z, wr = w1.drewN z)) (fun q _ => N - (intOf q).toNat)
            case atStart => exact ⟨0, Nat.zero_le _, rfl, hide fun r hr => absurd hr (Nat.not_lt_zero _), HD4⟩
            case round =>
              obtain ⟨c, hc, rfl, Hrow, HD⟩ := hrel
              have y3 : wr.cell? ⟨w.heap.size, 3, none⟩ = some (.int .i64 N) := by obtain ⟨z, rfl⟩ := HD.out; exact x3
              by_cases hcN : c < N
              · have hci : (c : Int) < (N : Int) := by omega
                have hcL : (c : Int) < (m.t.L r : Int) := by omega
                obtain ⟨a1, a2, a3⟩ := HAge.out.at hrl (show c < m.t.L r by omega)
                have z1 : wr.cell? ⟨s.tb, s.off + k * 2 + 1, none⟩ = some (.slice m.ga m.t.len m.cap) := by obtain ⟨z, rfl⟩ := HD.out; exact HC1.out z
                rw [a1] at z1
                have z2 : wr.cell? ⟨m.gb, m.go + r, none⟩ = some (.slice (some ⟨m.RB r, m.RO r, none⟩) (m.t.L r) (m.C r)) := by obtain ⟨z, rfl⟩ := HD.out; exact a2
                have z3 : wr.cell? ⟨m.RB r, m.RO r + c, none⟩ = some (.int .i64 (m.t.Z r c)) := by obtain ⟨z, rfl⟩ := HD.out; exact a3
                clear a1 a2 a3
                by_cases hin : 1 ≤ m.t.Z r c ∧ m.t.Z r c ≤ 20
                · have hb : (decide (1 ≤ m.t.Z r c) && decide (m.t.Z r c ≤ 20)) = true := by simp [hin]
                  have HQ := hide (fun W => between_q (m.t.Z r c) 1 20 W)
                  rw [hb] at HQ
                  have Hn : Hid (∀ c', c' < c + 1 → 1 ≤ m.t.Z r c' ∧ m.t.Z r c' ≤ 20) := hide (fun c' hc' => by
                    by_cases e : c' = c
                    · subst e; exact hin
                    · exact Hrow.out c' (by omega))
                  clear hin hb
                  go_wp2_with fail
                  go_at_call 56
                  refine (HQ.out _).mono ?_
                  rintro e w5 ⟨rfl, q, rfl⟩
                  go_wp2
                  go_roundw
                  case rel =>
                    first
                    | exact ⟨c + 1, by omega, by go_num, Hn, hide (by obtain ⟨m, rfl⟩ := HD.out; exact ⟨_, by rw [World.drewN_drewN]⟩)⟩
                    | ((repeat apply Exists.intro); refine ⟨?_, rfl⟩; exact ⟨c + 1, by omega, by go_num, Hn, hide (by obtain ⟨m, rfl⟩ := HD.out; exact ⟨_, by rw [World.drewN_drewN]⟩)⟩)
                    | (rw [← hta]; (repeat apply Exists.intro); refine ⟨?_, rfl⟩; exact ⟨c + 1, by omega, by go_num, Hn, hide (by obtain ⟨m, rfl⟩ := HD.out; exact ⟨_, by rw [World.drewN_drewN]⟩)⟩)
                  case measure => simp [intOf]; omega
                · have hb : (decide (1 ≤ m.t.Z r c) && decide (m.t.Z r c ≤ 20)) = false := by simp; omega
                  have HQ := hide (fun W => between_q (m.t.Z r c) 1 20 W)
                  rw [hb] at HQ
                  have hao : m.t.agesOk = false := Tab.agesOk_false (c := c) hrl (by omega) (by omega)
                  have hfin : Hid (n.net.turns s.sched = 3) := hide (by
                    have e1 : n.net.turnErr s.sched k = 3 := by rw [Ht2.out, if_pos hao]
                    rw [Hne.out (by rw [e1]; decide), e1])
                  clear hin hb hao
                  go_wp2_with fail
                  go_at_call 56
                  refine (HQ.out _).mono ?_
                  rintro e w5 ⟨rfl, q, rfl⟩
                  go_wp2
                  go_ret
                  exact ⟨by rw [hfin.out]; rfl, by obtain ⟨m, rfl⟩ := HD.out; exact below_drewN (below_drewN HB1.out m) _⟩
              · have hci : ¬ ((c : Int) < (N : Int)) := by omega
                have HAn : Hid (∀ r', r' < r + 1 → ∀ c, c < m.t.L r' → 1 ≤ m.t.Z r' c ∧ m.t.Z r' c ≤ 20) := hide (fun r' hr' => by
                  by_cases e : r' = r
                  · subst e; exact fun c' hc' => Hrow.out c' (by omega)
                  · exact Hok.out r' (by omega))
                go_wp2
                go_roundw
                case rel =>
                  first
                  | exact ⟨r + 1, by omega, by go_num, HAn, HD⟩
                  | ((repeat apply Exists.intro); refine ⟨?_, rfl⟩; exact ⟨r + 1, by omega, by go_num, HAn, HD⟩)
                case measure => simp [intOf]; omega
          · have hri : ¬ ((r : Int) < (N : Int)) := by omega
            have hao : m.t.agesOk = true := Tab.agesOk_iff.2 (fun r' hr' => Hok.out r' (by have := Hl.out; omega))
            have HAn : Hid (∀ r, r < k + 1 → n.net.turnErr s.sched r = 0) := hide (fun r' hr' => by
              by_cases e : r' = k
              · subst e; rw [Ht2.out, if_neg (by simp [hao])]
              · exact Hall.out r' (by omega))
            clear hao
            go_wp2
            go_roundw
            case rel =>
              first
              | exact ⟨k + 1, by omega, by go_num, HAn, HD⟩
              | (rw [← hta]; (repeat apply Exists.intro); refine ⟨?_, rfl⟩; exact ⟨k + 1, by omega, by go_num, HAn, HD⟩)
            case measure => simp [intOf]; omega

end Go.Proofs.Ytjhkadffaephmaa
