/-
  Our own texts, bundled: a claim holds few files.
-/
import Derived.Test.YtjhkadffaephmaaBundleBI
import Derived.Test.YtjhkadffaephmaaBundleAJ
import Derived.Test.YtjhkadffaephmaaBundleBG
import Derived.Test.YtjhkadffaephmaaBundleBH
/-
  signpostref.Column, RoundOf.
-/
namespace Go.Proofs.Ytjhkadffaephmaa
set_option maxRecDepth 100000
open Go.RowKit

set_option maxHeartbeats 2000000 in
theorem column_any (x : Mat) (N j : Nat) (w : World) (h : x.In w.heap.size w) (hl : x.t.len = N) (hw : ∀ r, r < N → x.t.L r = N) (hN : 0 < N) (hN6 : N ≤ 6) (hj : j < N) :
    Calls Try.prog 78 #[x.val, .int .i64 j] w fun e w' => ∃ g c : Nat, e = .returned (.slice (some ⟨g, 0, none⟩) N c) ∧ Below w.heap.size w w' ∧ g < w'.heap.size ∧ Ints (some ⟨g, 0, none⟩) N g 0 (fun k => x.t.Z k j) w' := by
  obtain ⟨i1, hi1, hy0, hy1, hy2⟩ := info_parts Try.infoInt
  have H := hide h
  have HW := hide hw
  have HL := hide hl
  simp only [Mat.val, hl]
  clear h hw hl
  go_enter Try.func78, Try.ntmps78
  go_wp2_with fail
  go_loopw [5, 6] (fun s q wr => ∃ k : Nat, k ≤ N ∧ q = .int .i64 k ∧ Hid (wr.ownsRow w.heap.size 3 1 s k (intsL (fun k => x.t.Z k j) k)) ∧ Hid (Below w.heap.size w wr)) (fun _ q _ => N - (intOf q).toNat)
  case atStart => exact ⟨0, Nat.zero_le _, rfl, hide (World.ownsRow_nil w _ _ 1), hide (Below.refl _ _)⟩
  case round =>
    obtain ⟨k, hk, rfl, HO, HB⟩ := hrel
    by_cases hlt : k < N
    · have hki : (k : Int) < (N : Int) := by omega
      have hkl : k < x.t.len := by rw [HL.out]; exact hlt
      obtain ⟨a1, a2, a3⟩ := (H.out.below HB.out (Nat.le_refl _)).at hkl (show j < x.t.L k by rw [HW.out k hlt]; exact hj)
      rw [HW.out k hlt] at a2
      have hji : (j : Int) < (N : Int) := by omega
      go_wp2_with (at_builtin; refine wpList_append_lies _ rfl _ _ _ rfl w.heap.size 3 i1 _ 1 8 Try.underlying32 hi1 hy0 hy1 hy2 rfl (by decide) _ k _ rfl (HO.out.alloc _) ⟨wr.heap.size, 0, none⟩ 1 1 [.int .i64 (x.t.Z k j)] rfl rfl ?c1 ?c2 (by decide) ?c3 ?c4 ?c5 _ rfl ?_)
      all_goals try (case c1 => exact World.news_of_block (Blk.new' (by simp)))
      all_goals try (case c2 => simp [Value.oneCell'])
      all_goals try (case c3 => unfold maxLen; omega)
      all_goals try (case c4 => omega)
      all_goals try (case c5 => have := HB.out.size; simp; omega)
      intro g' cap' w2 hown2 hgrow hat2 hlt2
      have HO2 := hide (show w2.ownsRow w.heap.size 3 1 _ (k + 1) (intsL (fun k => x.t.Z k j) (k + 1)) by rw [intsL_succ]; exact hown2)
      have HB2 := hide ((HB.out.alloc HB.out.size _).trans (grown_below hgrow (fun g hg => (HO.out.lt g hg).1) (by have := HB.out.size; simp; omega)))
      clear hown2 hgrow hat2 hlt2
      go_wp2
      go_roundw
      case rel =>
        first
        | exact ⟨k + 1, by omega, by go_num, HO2, HB2⟩
        | ((try rw [← a1]); (repeat apply Exists.intro); refine ⟨?_, rfl⟩; exact ⟨k + 1, by omega, by go_num, HO2, HB2⟩)
      case measure => simp [intOf]; omega
    · have hkn : k = N := by omega
      subst hkn
      have hki : (k : Int) ≤ (k : Int) := Int.le_refl _
      obtain ⟨g, c, rfl, _, hlt2⟩ := HO.out.form (by omega)
      have HI : Hid (Ints (some ⟨g, 0, none⟩) k g 0 (fun r => x.t.Z r j) wr) := hide ⟨fun _ => rfl, fun r hr => by rw [Nat.zero_add, HO.out.cellAt r (by omega), intsL_get hr], by unfold maxLen; omega⟩
      go_wp2
      go_ret
      exact ⟨g, c, rfl, HB.out, hlt2, HI.out⟩

/-- i rows of the round, and j routes of the next. -/
structure RndI (w1 : World) (N : Nat) (Z : Nat → Nat → Int) (Vo : Value) (i H : Nat) (Vr : Value) (j : Nat) (W : World) : Prop where
  below : Below w1.heap.size w1 W
  tab : OwnTab w1.heap.size H Vo i N Z W
  lo : w1.heap.size ≤ H
  hi : H ≤ W.heap.size
  row : W.ownsRow H 3 1 Vr j (intsL (Z i) j)
theorem RndI.keep {w1 : World} {N : Nat} {Z : Nat → Nat → Int} {Vo : Value} {i H : Nat} {Vr : Value} {j : Nat} {W W' : World} (h : RndI w1 N Z Vo i H Vr j W) (hb : Below W.heap.size W W') : RndI w1 N Z Vo i H Vr j W' :=
  ⟨h.below.trans (hb.mono h.below.size), h.tab.below hb, h.lo, Nat.le_trans h.hi hb.size, owns_below h.row hb⟩
theorem RndI.push {w1 : World} {N : Nat} {Z : Nat → Nat → Int} {Vo : Value} {i H : Nat} {Vr V' : Value} {j : Nat} {W W' : World} (h : RndI w1 N Z Vo i H Vr j W) (hg : W.grownBy W' Vr.ownBlock)
    (ho : W'.ownsRow H 3 1 V' (j + 1) (intsL (Z i) j ++ [.int .i64 (Z i j)])) : RndI w1 N Z Vo i H V' (j + 1) W' :=
  ⟨h.below.trans (grown_below hg (fun g hg => by have := (h.row.lt g hg).1; have := h.lo; omega) h.below.size), h.tab.kept hg (fun k hk => Or.inr (h.row.lt k hk).1), h.lo, Nat.le_trans h.hi hg.size, by rw [intsL_succ]; exact ho⟩

/-- What the operations of the inner region leave. -/
def RndE (n : NetM) (x : Mat) (N : Nat) (Vr : Value) (i j : Nat) (k : Nat) (v : Value) (W : World) : Prop :=
  match k with
  | 0 => v = Vr
  | 1 => v = n.val
  | 2 => v = .int .i64 i
  | 3 => v = .int .i64 j
  | 4 => v = x.val
  | 5 => v = .int .i64 j
  | 6 => ∃ g c : Nat, v = .slice (some ⟨g, 0, none⟩) N c ∧ g < W.heap.size ∧ Ints (some ⟨g, 0, none⟩) N g 0 (fun r => x.t.Z r j) W
  | 7 => v = .int .i64 (n.net.round x.t.Z i j)
  | _ => ∃ b : Nat, v = .slice (some ⟨b, 0, none⟩) 1 1 ∧ Blk W b #[.int .i64 (n.net.round x.t.Z i j)] 3
theorem RndE.keep {n : NetM} {x : Mat} {N : Nat} {Vr : Value} {i j : Nat} {W W' : World} (hb : Below W.heap.size W W') (k : Nat) (v : Value) (h : RndE n x N Vr i j k v W) : RndE n x N Vr i j k v W' := by
  unfold RndE at *
  split at h
  all_goals first | exact h | skip
  · obtain ⟨g, c, h1, h2, h3⟩ := h
    exact ⟨g, c, h1, Nat.lt_of_lt_of_le h2 hb.size, h3.below hb (fun _ => h2)⟩
  · obtain ⟨b, h1, h2⟩ := h
    exact ⟨b, h1, h2.below hb h2.lt⟩

set_option maxHeartbeats 4000000 in
theorem roundOf_any (n : NetM) (x : Mat) (w : World) (h : n.In w.heap.size w) (hx : x.In w.heap.size w) (hck : n.net.check = 0) (his : n.net.Is x.t) :
    Calls Try.prog 35 #[n.val, x.val] w fun e w' => (∃ m : Mat, e = .returned m.val ∧ Fresh n.net.N w.heap.size (n.net.round x.t.Z) m w') ∧ Below w.heap.size w w' := by
  have g := Net.good_of_check hck
  have lo := g.lo
  have hi6 := g.hi
  obtain ⟨N, hN⟩ : ∃ N : Nat, n.nodes = N := ⟨n.nodes.toNat, by have : n.net.nodes = n.nodes := rfl; omega⟩
  have hNN : n.net.N = N := by show n.nodes.toNat = N; omega
  have hN6 : N ≤ 6 := by have : n.net.nodes = n.nodes := rfl; omega
  have hN1 : 0 < N := by have : n.net.nodes = n.nodes := rfl; omega
  obtain ⟨i1, hi1, hy0, hy1, hy2⟩ := info_parts Try.infoInt
  obtain ⟨i2, hi2, hx0, hx1, hx2⟩ := info_parts Try.infoInts
  have hcells : n.cells = #[.int .i64 n.a.size, .slice n.a.B.ga n.a.B.t.len n.a.B.cap, .slice n.a.E.ga n.a.E.t.len n.a.E.cap, .int .i64 N, .slice n.la n.ln n.lc] := by simp only [NetM.cells, Mat.val, hN]
  have HCol := hide (fun (j : Nat) (hj : j < N) W (hb : Below w.heap.size w W) => column_any x N j W (hx.grown hb) (by rw [← hNN]; exact his.len) (fun r hr => by rw [← hNN]; exact his.wide r (by rw [hNN]; exact hr)) hN1 hN6 hj)
  have HRt := hide (fun (i j g c : Nat) (hj : j < N) W (hb : Below w.heap.size w W) (hgl : g < W.heap.size) (hI : Ints (some ⟨g, 0, none⟩) N g 0 (fun r => x.t.Z r j) W) =>
    routeOf_any n i j (some ⟨g, 0, none⟩) c g 0 (fun r => x.t.Z r j) W (h.grown hb) hck (by rw [hNN]; exact hI) hgl (fun r hr => his.state r j hr (by rw [hNN]; exact hj)))
  rw [hNN] at HRt
  have HNN := hide hNN
  have hval : n.val = .agg #[.int .i64 n.a.size, .slice n.a.B.ga n.a.B.t.len n.a.B.cap, .slice n.a.E.ga n.a.E.t.len n.a.E.cap, .int .i64 N, .slice n.la n.ln n.lc] := by rw [NetM.val, hcells]
  have Hval := hide hval
  simp only [Mat.val] at HCol ⊢
  rw [hval] at HRt ⊢
  obtain ⟨W0, hW0⟩ : ∃ W0, W0 = w.alloc (.cells #[.int .i64 n.a.size, .slice n.a.B.ga n.a.B.t.len n.a.B.cap, .slice n.a.E.ga n.a.E.t.len n.a.E.cap, .int .i64 N, .slice n.la n.ln n.lc] 50) := ⟨_, rfl⟩
  have B0 : Hid (Below w.heap.size w W0) := hide (by rw [hW0]; exact (Below.refl _ w).alloc (Nat.le_refl _) _)
  have Hb0 : Hid (Blk W0 w.heap.size #[.int .i64 n.a.size, .slice n.a.B.ga n.a.B.t.len n.a.B.cap, .slice n.a.E.ga n.a.E.t.len n.a.E.cap, .int .i64 N, .slice n.la n.ln n.lc] 50) := hide (by rw [hW0]; exact Blk.new w _ _)
  clear hN hcells hval h hck hNN lo hi6 g hx his
  go_enter Try.func35, Try.ntmps35
  go_wp2_with fail
  rw [← hW0]
  clear hW0
  go_loopw [5, 6, 7, 8] (fun s q _ _ wr => ∃ i : Nat, i ≤ N ∧ q = .int .i64 i ∧ Hid (OwnTab W0.heap.size wr.heap.size s i N (n.net.round x.t.Z) wr) ∧ Hid (Below W0.heap.size W0 wr)) (fun _ q _ _ _ => N - (intOf q).toNat)
  case atStart => exact ⟨0, Nat.zero_le _, rfl, hide (OwnTab.nil _ _ _ _ _), hide (Below.refl _ _)⟩
  case round =>
    obtain ⟨i, hi, rfl, HT, HB⟩ := hrel
    have bN := Hb0.out.below HB.out Hb0.out.lt
    have x3 := bN.cell 3
    simp at x3
    by_cases hlt : i < N
    · have hii : (i : Int) < (N : Int) := by omega
      obtain ⟨Vo, hVo⟩ : ∃ Vo, Vo = u5 := ⟨_, rfl⟩
      obtain ⟨H, hH⟩ : ∃ H, H = wr.heap.size := ⟨_, rfl⟩
      have HI0 : Hid (RndI W0 N (n.net.round x.t.Z) Vo i H (.slice none 0 0) 0 wr) := hide (by
        rw [hVo, hH]
        exact ⟨HB.out, HT.out, HB.out.size, Nat.le_refl _, World.ownsRow_nil wr _ _ 1⟩)
      clear HT HB bN
      go_wp2_with fail
      rw [← hVo]
      clear hVo hH x3
      go_loopw [7, 8] (fun s q wr => ∃ j : Nat, j ≤ N ∧ q = .int .i64 j ∧ Hid (RndI W0 N (n.net.round x.t.Z) Vo i H s j wr)) (fun _ q _ => N - (intOf q).toNat)
      case atStart => exact ⟨0, Nat.zero_le _, rfl, HI0⟩
      case round =>
        clear HI0
        obtain ⟨j, hj, rfl, HJ⟩ := hrel
        obtain ⟨Vr, hVr⟩ : ∃ Vr, Vr = u7 := ⟨_, rfl⟩
        have bN := Hb0.out.below HJ.out.below Hb0.out.lt
        have x3 := bN.cell 3
        simp at x3
        by_cases hjl : j < N
        · have hji : (j : Int) < (N : Int) := by omega
          rw [← hVr] at HJ
          go_wp2_with fail
          rw [← hVr]
          clear hVr x3 bN
          refine wp_region_last 9 _ (RndI W0 N (n.net.round x.t.Z) Vo i H Vr j) (RndE n x N Vr i j) (fun v W => RndI W0 N (n.net.round x.t.Z) Vo i H v (j + 1) W) (fun _ v u => v = u)
            (by kernel_rfl) (by kernel_rfl) (by kernel_rfl) (by kernel_rfl) (by kernel_rfl) rfl (HJ.out.keep ⟨rfl, rfl, rfl, Nat.le_refl _, fun _ _ => rfl⟩) ⟨?_, ?_, ?_, ?_, ?_, ?_, ?_, ?_, ?_, trivial⟩ ?_ ⟨?_, trivial⟩ ?_
          rotate_right
          · intro t W hG hE'
            have e10 : t 10 = t 9 := hE' 10 (by omega) (by decide)
            have HG := hide hG
            clear hG hE'
            simp only [fill, Act.put, List.setIfInBounds_toArray, List.set_cons_zero, List.set_cons_succ, e10]
            generalize t 9 = V9 at *
            go_wp2
            go_roundw
            case rel =>
              first
              | exact ⟨j + 1, by omega, by go_num, HG⟩
              | ((repeat apply Exists.intro); refine ⟨?_, rfl⟩; exact ⟨j + 1, by omega, by go_num, HG⟩)
            case measure => simp [intOf]; omega
          rotate_right
          · intro t W hG K hK
            simp only [fill, Act.put, List.setIfInBounds_toArray, List.set_cons_zero, List.set_cons_succ] at hK ⊢
            rw [if_pos (by rfl)]
            go_simp
            exact hK _ rfl
          rotate_right
          · intro t W hG hE _ K hK
            have e0 : t 0 = Vr := hE 0 (by omega)
            obtain ⟨b, e8, hbk⟩ := hE 8 (by omega)
            simp only [fill, Act.put, List.setIfInBounds_toArray, List.set_cons_zero, List.set_cons_succ, e0, e8] at hK ⊢
            rw [if_pos (by rfl)]
            refine wp_append_lies W _ _ _ (by rfl) H 3 i1 _ 1 8 Try.underlying32 hi1 hy0 hy1 hy2 rfl (by decide) Vr j _ (by rfl) hG.row ⟨b, 0, none⟩ 1 1 [.int .i64 (n.net.round x.t.Z i j)] (by rfl) rfl (World.news_of_block hbk) (by simp [Value.oneCell']) (by decide) (by unfold maxLen; omega) (by omega) hG.hi _ rfl ?_
            intro g c w1 hown hgrow hat _
            exact hK _ w1 (hG.push hgrow hown)
          all_goals intro t W hG hp ht K hK
          all_goals have e10 : t 10 = Vr := ht 10 (by omega)
          all_goals clear ht
          all_goals simp only [fill, Act.put, List.setIfInBounds_toArray, List.set_cons_zero, List.set_cons_succ, e10] at hK ⊢
          all_goals clear e10
          all_goals rw [if_pos (by rfl)]
          · go_simp
            exact hK _ W hG rfl (fun _ _ _ h => h)
          · have bN := Hb0.out.below hG.below Hb0.out.lt
            have x0 := bN.cell 0
            have x1 := bN.cell 1
            have x2 := bN.cell 2
            have x3 := bN.cell 3
            have x4 := bN.cell 4
            simp at x0 x1 x2 x3 x4
            go_simp
            exact hK _ W hG (by show _ = n.val; rw [Hval.out]) (fun _ _ _ h => h)
          · go_simp
            exact hK _ W hG rfl (fun _ _ _ h => h)
          · go_simp
            exact hK _ W hG rfl (fun _ _ _ h => h)
          · go_simp
            exact hK _ W hG rfl (fun _ _ _ h => h)
          · go_simp
            exact hK _ W hG rfl (fun _ _ _ h => h)
          · have e4 : t 4 = x.val := hp 4 (by decide)
            have e5 : t 5 = .int .i64 j := hp 5 (by decide)
            rw [Mat.val] at e4
            simp only [e4, e5] at hK ⊢
            go_simp
            go_at_call 78
            refine (HCol.out j hjl W (B0.out.trans (hG.below.mono B0.out.size))).mono ?_
            rintro e W' ⟨g, c, rfl, hb, hgl, hI⟩
            go_simp
            exact hK _ W' (hG.keep hb) ⟨g, c, rfl, hgl, hI⟩ (fun k u _ => RndE.keep hb k u)
          · have e1 : t 1 = n.val := hp 1 (by decide)
            have e2 : t 2 = .int .i64 i := hp 2 (by decide)
            have e3 : t 3 = .int .i64 j := hp 3 (by decide)
            obtain ⟨g, c, e6, hgl, hI⟩ := hp 6 (by decide)
            rw [Hval.out] at e1
            simp only [e1, e2, e3, e6] at hK ⊢
            go_simp
            go_at_call 77
            refine (HRt.out i j g c hjl W (B0.out.trans (hG.below.mono B0.out.size)) hgl hI).mono ?_
            rintro e W' ⟨rfl, hb⟩
            go_simp
            exact hK _ W' (hG.keep hb) rfl (fun k u _ => RndE.keep hb k u)
          · have e7 : t 7 = .int .i64 (n.net.round x.t.Z i j) := hp 7 (by decide)
            have hb : Below W.heap.size W (W.alloc (.cells #[.int .i64 (n.net.round x.t.Z i j)] 3)) := (Below.refl _ W).alloc (Nat.le_refl _) _
            simp only [e7] at hK ⊢
            go_simp
            exact hK _ _ (hG.keep hb) ⟨W.heap.size, rfl, Blk.new W _ _⟩ (fun k u _ => RndE.keep hb k u)
        · have hjn : j = N := by omega
          have hji : (N : Int) ≤ (j : Int) := by omega
          subst hjn
          clear hVr Vr
          obtain ⟨gn, cn, rfl, _, hgl⟩ := HJ.out.row.form (by omega)
          obtain ⟨g, c, k1, k2, k3, k4⟩ := HJ.out.tab
          have hHi := HJ.out.hi
          have hlo := HJ.out.lo
          have HRow := hide HJ.out.row
          have HBl := hide HJ.out.below
          have hsz := HJ.out.below.size
          have Hk1 := hide k1
          have Hk3 := hide k3
          clear HJ k1 k3
          go_wp2_with (at_builtin; refine wpList_append_lies _ rfl _ _ _ rfl W0.heap.size 32 i2 _ 1 24 Try.underlying22 hi2 hx0 hx1 hx2 rfl (by decide) _ i _ rfl (Hk1.out.alloc _) ⟨wr.heap.size, 0, none⟩ 1 1 [.slice (some ⟨gn, 0, none⟩) j cn] rfl rfl ?c1 ?c2 (by decide) ?c3 ?c4 ?c5 _ rfl ?_)
          all_goals try (case c1 => exact World.news_of_block (Blk.new' (by simp)))
          all_goals try (case c2 => simp [Value.oneCell'])
          all_goals try (case c3 => unfold maxLen; omega)
          all_goals try (case c4 => omega)
          all_goals try (case c5 => simp; omega)
          intro g' cap' w2 hown2 hgrow hat2 hlt2
          have hnew := OwnTab.push (Hk1.out.alloc (.cells #[.slice (some ⟨gn, 0, none⟩) j cn] 32)) k2 (fun r hr => ⟨(Hk3.out r hr).1.alloc _, (Hk3.out r hr).2⟩) k4 hlo (HRow.out.alloc _) hown2 hgrow (by simpa using hat2)
          have HT2 := hide hnew
          have HB2 := hide ((HBl.out.alloc HBl.out.size _).trans (grown_below hgrow (fun q hq => (Hk1.out.lt q hq).1) (by simp; omega)))
          clear hown2 hgrow hat2 hlt2 hnew Hk1 Hk3 k2 k4 HRow HBl
          go_wp2
          go_roundw
          case rel =>
            first
            | exact ⟨i + 1, by omega, by go_num, HT2, HB2⟩
            | ((repeat apply Exists.intro); refine ⟨?_, rfl⟩; exact ⟨i + 1, by omega, by go_num, HT2, HB2⟩)
          case measure => simp [intOf]; omega
    · have hin : i = N := by omega
      subst hin
      have hii : (i : Int) ≤ (i : Int) := Int.le_refl _
      obtain ⟨m, e1, e2, e3, e4⟩ := HT.out.mat (by omega) (by omega)
      have He := hide e1
      have HF : Hid (Fresh n.net.N w.heap.size (n.net.round x.t.Z) m wr) := hide ⟨by rw [HNN.out]; exact e2, e3, e4.mono (by have := B0.out.size; omega)⟩
      have HBw := hide (B0.out.trans (HB.out.mono B0.out.size))
      clear e1 e2 e3 e4 HT
      go_wp2
      go_ret
      exact ⟨⟨m, congrArg Ending.returned He.out, HF.out⟩, HBw.out⟩

end Go.Proofs.Ytjhkadffaephmaa

/-
  signpostref.BeginOf, SettleOf; signpostlaw.stateIs.
-/
namespace Go.Proofs.Ytjhkadffaephmaa
set_option maxRecDepth 100000
open Go.RowKit

set_option maxHeartbeats 4000000 in
theorem beginOf_any (n : NetM) (w : World) (hck : n.net.check = 0) :
    Calls Try.prog 36 #[n.val] w fun e w' => (∃ m : Mat, e = .returned m.val ∧ Fresh n.net.N w.heap.size n.net.begin m w') ∧ Below w.heap.size w w' := by
  have g := Net.good_of_check hck
  have lo := g.lo
  have hi6 := g.hi
  have hs0 : 2 ≤ n.a.size := g.law.good.lo
  have hs1 : n.a.size ≤ 24 := g.law.good.hi
  obtain ⟨N, hN⟩ : ∃ N : Nat, n.nodes = N := ⟨n.nodes.toNat, by have : n.net.nodes = n.nodes := rfl; omega⟩
  have hNN : n.net.N = N := by show n.nodes.toNat = N; omega
  have hN6 : N ≤ 6 := by have : n.net.nodes = n.nodes := rfl; omega
  have hN1 : 0 < N := by have : n.net.nodes = n.nodes := rfl; omega
  obtain ⟨i1, hi1, hy0, hy1, hy2⟩ := info_parts Try.infoInt
  obtain ⟨i2, hi2, hx0, hx1, hx2⟩ := info_parts Try.infoInts
  have HNN := hide hNN
  have Hbeg : Hid (∀ i j, n.net.begin i j = if i = j then 0 else n.a.size - 1) := hide (fun _ _ => rfl)
  have hval : n.val = .agg #[.int .i64 n.a.size, .slice n.a.B.ga n.a.B.t.len n.a.B.cap, .slice n.a.E.ga n.a.E.t.len n.a.E.cap, .int .i64 N, .slice n.la n.ln n.lc] := by simp only [NetM.val, NetM.cells, Mat.val, hN]
  simp only [Mat.val]
  rw [hval]
  obtain ⟨W0, hW0⟩ : ∃ W0, W0 = w.alloc (.cells #[.int .i64 n.a.size, .slice n.a.B.ga n.a.B.t.len n.a.B.cap, .slice n.a.E.ga n.a.E.t.len n.a.E.cap, .int .i64 N, .slice n.la n.ln n.lc] 50) := ⟨_, rfl⟩
  have B0 : Hid (Below w.heap.size w W0) := hide (by rw [hW0]; exact (Below.refl _ w).alloc (Nat.le_refl _) _)
  have Hb0 : Hid (Blk W0 w.heap.size #[.int .i64 n.a.size, .slice n.a.B.ga n.a.B.t.len n.a.B.cap, .slice n.a.E.ga n.a.E.t.len n.a.E.cap, .int .i64 N, .slice n.la n.ln n.lc] 50) := hide (by rw [hW0]; exact Blk.new w _ _)
  clear hN hval hck hNN lo hi6 g
  go_enter Try.func36, Try.ntmps36
  go_wp2_with fail
  rw [← hW0]
  clear hW0
  go_loopw [3, 4, 5, 6] (fun s q _ _ wr => ∃ i : Nat, i ≤ N ∧ q = .int .i64 i ∧ Hid (OwnTab W0.heap.size wr.heap.size s i N n.net.begin wr) ∧ Hid (Below W0.heap.size W0 wr)) (fun _ q _ _ _ => N - (intOf q).toNat)
  case atStart => exact ⟨0, Nat.zero_le _, rfl, hide (OwnTab.nil _ _ _ _ _), hide (Below.refl _ _)⟩
  case round =>
    obtain ⟨i, hi, rfl, HT, HB⟩ := hrel
    have bN := Hb0.out.below HB.out Hb0.out.lt
    have x3 := bN.cell 3
    simp at x3
    by_cases hlt : i < N
    · have hii : (i : Int) < (N : Int) := by omega
      obtain ⟨Vo, hVo⟩ : ∃ Vo, Vo = u3 := ⟨_, rfl⟩
      obtain ⟨H, hH⟩ : ∃ H, H = wr.heap.size := ⟨_, rfl⟩
      have HI0 : Hid (RndI W0 N n.net.begin Vo i H (.slice none 0 0) 0 wr) := hide (by
        rw [hVo, hH]
        exact ⟨HB.out, HT.out, HB.out.size, Nat.le_refl _, World.ownsRow_nil wr _ _ 1⟩)
      clear HT HB bN
      go_wp2_with fail
      rw [← hVo]
      clear hVo hH x3
      go_loopw [5, 6] (fun s q wr => ∃ j : Nat, j ≤ N ∧ q = .int .i64 j ∧ Hid (RndI W0 N n.net.begin Vo i H s j wr)) (fun _ q _ => N - (intOf q).toNat)
      case atStart => exact ⟨0, Nat.zero_le _, rfl, HI0⟩
      case round =>
        clear HI0
        obtain ⟨j, hj, rfl, HJ⟩ := hrel
        have bN := Hb0.out.below HJ.out.below Hb0.out.lt
        have x3 := bN.cell 3
        have x0 := bN.cell 0
        simp at x3 x0
        by_cases hjl : j < N
        · have hji : (j : Int) < (N : Int) := by omega
          have hHi := HJ.out.hi
          have key : ∃ v : Int, v = n.net.begin i j ∧ ((i = j ∧ v = 0) ∨ (i ≠ j ∧ v = n.a.size - 1)) := by
            by_cases e : i = j
            · exact ⟨_, rfl, Or.inl ⟨e, by rw [Hbeg.out, if_pos e]⟩⟩
            · exact ⟨_, rfl, Or.inr ⟨e, by rw [Hbeg.out, if_neg e]⟩⟩
          obtain ⟨v, hv, hcase⟩ := key
          have Hv := hide hv
          clear hv
          rcases hcase with ⟨hij, hv⟩ | ⟨hij, hv⟩
          · have hij' : ((i : Int) == (j : Int)) = true := by simp [hij]
            subst hv
            clear hij
            go_wp2_with (at_builtin; refine wpList_append_lies _ rfl _ _ _ rfl H 3 i1 _ 1 8 Try.underlying32 hi1 hy0 hy1 hy2 rfl (by decide) _ j _ rfl (HJ.out.row.alloc _) ⟨wr.heap.size, 0, none⟩ 1 1 [.int .i64 0] rfl rfl ?c1 ?c2 (by decide) ?c3 ?c4 ?c5 _ rfl ?_)
            all_goals try (case c1 => exact World.news_of_block (Blk.new' (by simp)))
            all_goals try (case c2 => simp [Value.oneCell'])
            all_goals try (case c3 => unfold maxLen; omega)
            all_goals try (case c4 => omega)
            all_goals try (case c5 => simp; omega)
            intro g' cap' w2 hown2 hgrow hat2 hlt2
            have HJ2 := hide ((HJ.out.keep ((Below.refl _ wr).alloc (Nat.le_refl _) (.cells #[.int .i64 0] 3))).push hgrow (by rw [← Hv.out]; exact hown2))
            clear hown2 hgrow hat2 hlt2
            go_wp2
            go_roundw
            case rel =>
              first
              | exact ⟨j + 1, by omega, by go_num, HJ2⟩
              | ((repeat apply Exists.intro); refine ⟨?_, rfl⟩; exact ⟨j + 1, by omega, by go_num, HJ2⟩)
            case measure => simp [intOf]; omega
          · have hij' : ((i : Int) == (j : Int)) = false := by simp; omega
            clear hij
            rw [hv] at Hv
            go_wp2_with (at_builtin; refine wpList_append_lies _ rfl _ _ _ rfl H 3 i1 _ 1 8 Try.underlying32 hi1 hy0 hy1 hy2 rfl (by decide) _ j _ rfl (HJ.out.row.alloc _) ⟨wr.heap.size, 0, none⟩ 1 1 [.int .i64 (n.a.size - 1)] rfl rfl ?c1 ?c2 (by decide) ?c3 ?c4 ?c5 _ rfl ?_)
            all_goals try (case c1 => exact World.news_of_block (Blk.new' (by simp)))
            all_goals try (case c2 => simp [Value.oneCell'])
            all_goals try (case c3 => unfold maxLen; omega)
            all_goals try (case c4 => omega)
            all_goals try (case c5 => simp; omega)
            intro g' cap' w2 hown2 hgrow hat2 hlt2
            have HJ2 := hide ((HJ.out.keep ((Below.refl _ wr).alloc (Nat.le_refl _) (.cells #[.int .i64 (n.a.size - 1)] 3))).push hgrow (by rw [← Hv.out]; exact hown2))
            clear hown2 hgrow hat2 hlt2
            go_wp2
            go_roundw
            case rel =>
              first
              | exact ⟨j + 1, by omega, by go_num, HJ2⟩
              | ((repeat apply Exists.intro); refine ⟨?_, rfl⟩; exact ⟨j + 1, by omega, by go_num, HJ2⟩)
            case measure => simp [intOf]; omega
        · have hjn : j = N := by omega
          have hji : (N : Int) ≤ (j : Int) := by omega
          subst hjn
          obtain ⟨gn, cn, rfl, _, hgl⟩ := HJ.out.row.form (by omega)
          obtain ⟨g, c, k1, k2, k3, k4⟩ := HJ.out.tab
          have hHi := HJ.out.hi
          have hlo := HJ.out.lo
          have HRow := hide HJ.out.row
          have HBl := hide HJ.out.below
          have hsz := HJ.out.below.size
          have Hk1 := hide k1
          have Hk3 := hide k3
          clear HJ k1 k3
          go_wp2_with (at_builtin; refine wpList_append_lies _ rfl _ _ _ rfl W0.heap.size 32 i2 _ 1 24 Try.underlying22 hi2 hx0 hx1 hx2 rfl (by decide) _ i _ rfl (Hk1.out.alloc _) ⟨wr.heap.size, 0, none⟩ 1 1 [.slice (some ⟨gn, 0, none⟩) j cn] rfl rfl ?c1 ?c2 (by decide) ?c3 ?c4 ?c5 _ rfl ?_)
          all_goals try (case c1 => exact World.news_of_block (Blk.new' (by simp)))
          all_goals try (case c2 => simp [Value.oneCell'])
          all_goals try (case c3 => unfold maxLen; omega)
          all_goals try (case c4 => omega)
          all_goals try (case c5 => simp; omega)
          intro g' cap' w2 hown2 hgrow hat2 hlt2
          have hnew := OwnTab.push (Hk1.out.alloc (.cells #[.slice (some ⟨gn, 0, none⟩) j cn] 32)) k2 (fun r hr => ⟨(Hk3.out r hr).1.alloc _, (Hk3.out r hr).2⟩) k4 hlo (HRow.out.alloc _) hown2 hgrow (by simpa using hat2)
          have HT2 := hide hnew
          have HB2 := hide ((HBl.out.alloc HBl.out.size _).trans (grown_below hgrow (fun q hq => (Hk1.out.lt q hq).1) (by simp; omega)))
          clear hown2 hgrow hat2 hlt2 hnew Hk1 Hk3 k2 k4 HRow HBl
          go_wp2
          go_roundw
          case rel =>
            first
            | exact ⟨i + 1, by omega, by go_num, HT2, HB2⟩
            | ((repeat apply Exists.intro); refine ⟨?_, rfl⟩; exact ⟨i + 1, by omega, by go_num, HT2, HB2⟩)
          case measure => simp [intOf]; omega
    · have hin : i = N := by omega
      subst hin
      have hii : (i : Int) ≤ (i : Int) := Int.le_refl _
      obtain ⟨m, e1, e2, e3, e4⟩ := HT.out.mat (by omega) (by omega)
      have He := hide e1
      have HF : Hid (Fresh n.net.N w.heap.size n.net.begin m wr) := hide ⟨by rw [HNN.out]; exact e2, e3, e4.mono (by have := B0.out.size; omega)⟩
      have HBw := hide (B0.out.trans (HB.out.mono B0.out.size))
      clear e1 e2 e3 e4 HT
      go_wp2
      go_ret
      exact ⟨⟨m, congrArg Ending.returned He.out, HF.out⟩, HBw.out⟩

set_option maxHeartbeats 4000000 in
theorem settleOf_any (n : NetM) (x : Mat) (M : Nat) (w : World) (h : n.In w.heap.size w) (hx : x.In w.heap.size w) (hf : n.net.fit x.t = 0) (hM : M ≤ 1000) :
    Calls Try.prog 42 #[n.val, x.val, .int .i64 M] w fun e w' => (∃ m : Mat, e = .returned (.tuple #[m.val, .int .i64 ((n.net.settle M x.t.Z).2 : Nat)]) ∧ m.In w'.heap.size w' ∧ m.t.len = n.net.N ∧ (∀ r, r < n.net.N → m.t.L r = n.net.N) ∧ m.t.Z = (n.net.settle M x.t.Z).1) ∧ Below w.heap.size w w' := by
  obtain ⟨hc, hi⟩ := Net.is_of_fit hf
  have g := Net.good_of_check hc
  have HRd := hide (fun (m : Mat) W (hb : Below w.heap.size w W) (hm : m.In W.heap.size W) (hs : n.net.Is m.t) => roundOf_any n m W (h.grown hb) hm hc hs)
  have HSt := hide (fun (Y : Nat → Nat → Int) (hs : n.net.State Y) => hs.round g)
  have HX := hide hx
  have HI := hide hi
  have b0 := Blk.new w n.cells 50
  clear hf hc hi h hx g
  simp only [NetM.val, NetM.cells, Mat.val] at HRd b0 ⊢
  obtain ⟨W0, hW0⟩ : ∃ W0, W0 = w.alloc (.cells #[.int .i64 n.a.size, .slice n.a.B.ga n.a.B.t.len n.a.B.cap, .slice n.a.E.ga n.a.E.t.len n.a.E.cap, .int .i64 n.nodes, .slice n.la n.ln n.lc] 50) := ⟨_, rfl⟩
  have B0 : Hid (Below w.heap.size w W0) := hide (by rw [hW0]; exact (Below.refl _ w).alloc (Nat.le_refl _) _)
  rw [← hW0] at b0
  go_enter Try.func42, Try.ntmps42
  go_wp2_with fail
  rw [← hW0]
  clear hW0
  go_loopw [1, 8, 9] (fun s q _ wr => ∃ (k : Nat) (m : Mat), k ≤ M ∧ q = .int .i64 k ∧ s = .slice m.ga m.t.len m.cap ∧ Hid (m.In wr.heap.size wr) ∧ Hid (n.net.Is m.t) ∧ Hid (n.net.Left M x.t.Z k m.t.Z) ∧ Hid (Below W0.heap.size W0 wr)) (fun _ q _ _ => M - (intOf q).toNat)
  case atStart => exact ⟨0, x, Nat.zero_le _, rfl, rfl, hide (HX.out.grown B0.out), HI, hide rfl, hide (Below.refl _ _)⟩
  case round =>
    obtain ⟨k, m, hk, rfl, rfl, HM, HY, HL, HB⟩ := hrel
    have hBw := B0.out.trans (HB.out.mono B0.out.size)
    by_cases hlt : k < M
    · have bN := b0.below HB.out b0.lt
      have x0 := bN.cell 0
      have x1 := bN.cell 1
      have x2 := bN.cell 2
      have x3 := bN.cell 3
      have x4 := bN.cell 4
      simp at x0 x1 x2 x3 x4
      have hki : (k : Int) < (M : Int) := by omega
      have HR1 := hide (HRd.out m wr hBw HM.out HY.out)
      have HBw := hide hBw
      clear hBw
      go_wp2_with fail
      go_at_call 35
      refine HR1.out.mono ?_
      rintro e w3 ⟨⟨m2, rfl, hm2⟩, hb3⟩
      have HM1 := hide (HM.out.grown hb3)
      have Hsm : Hid (m.t.same m2.t = n.net.same m.t.Z (n.net.round m.t.Z)) := hide (by
        rw [Bool.eq_iff_iff, Tab.same_iff, Net.same_iff, hm2.1]
        constructor
        · intro hh i j hi hj
          exact (hh.2 i (by rw [HY.out.len]; exact hi)).2 j (by rw [HY.out.wide i hi]; exact hj)
        · intro hh
          refine ⟨HY.out.len, fun i hi => ?_⟩
          have hi' : i < n.net.N := by rw [← HY.out.len]; exact hi
          exact ⟨HY.out.wide i hi', fun j hj => hh i j hi' (by rw [HY.out.wide i hi'] at hj; exact hj)⟩)
      have HB3 := hide (HB.out.trans (hb3.mono HB.out.size))
      have HSm := hide (sameState_any m m2 w3.heap.size w3 HM1.out hm2.2.1)
      simp only [Mat.val] at HSm
      have HM2 := hide hm2
      clear hm2 hb3 HR1 x0 x1 x2 x3 x4 bN HB
      go_wp2_with fail
      go_at_call 43
      refine HSm.out.mono ?_
      rintro e w4 ⟨rfl, q, rfl⟩
      cases hs : n.net.same m.t.Z (n.net.round m.t.Z) with
      | true =>
        have hs2 : m.t.same m2.t = true := Hsm.out.trans hs
        have Hst := hide (HL.out.stop (Or.inr hs))
        have HBf := hide (below_drewN (B0.out.trans (HB3.out.mono B0.out.size)) q)
        rw [hs2]
        clear hs hs2 Hsm HL HSm
        go_wp2
        have e2 : (n.net.settle M x.t.Z).2 = k := by rw [Hst.out]
        have e3 : (n.net.settle M x.t.Z).1 = m.t.Z := by rw [Hst.out]
        exact bodyPost_ret (v := .tuple #[.slice m.ga m.t.len m.cap, .int .i64 k]) (by simp [results, Try.results42, go_sem]) rfl ⟨⟨m, by rw [e2], HM1.out.grown (below_drewN (Below.refl _ _) q), HY.out.len, HY.out.wide, e3.symm⟩, HBf.out⟩
      | false =>
        have hs2 : m.t.same m2.t = false := Hsm.out.trans hs
        have e1 : m2.t.Z = n.net.round m.t.Z := by rw [HM2.out.1]
        have HLn : Hid (n.net.Left M x.t.Z (k + 1) m2.t.Z) := hide (by rw [e1]; exact HL.out.next hlt hs)
        have HYn : Hid (n.net.Is m2.t) := hide (HM2.out.is (HSt.out _ HY.out.state))
        have HM3 : Hid (m2.In (w3.drewN q).heap.size (w3.drewN q)) := hide (HM2.out.2.1.grown (below_drewN (Below.refl _ _) q))
        have HB4 := hide (below_drewN HB3.out q)
        rw [hs2]
        clear hs hs2 Hsm HL HSm HM HM1 HM2 HB3 e1
        go_wp2
        go_roundw
        case rel =>
          first
          | exact ⟨k + 1, m2, by omega, by go_num, rfl, HM3, HYn, HLn, HB4⟩
          | ((repeat apply Exists.intro); refine ⟨?_, rfl⟩; exact ⟨k + 1, m2, by omega, by go_num, rfl, HM3, HYn, HLn, HB4⟩)
        case measure => simp [intOf]; omega
    · have hkM : k = M := by omega
      have Hst := hide (HL.out.stop (Or.inl hkM))
      have hki : (M : Int) ≤ (k : Int) := by omega
      have HBw := hide hBw
      clear hBw HL
      go_wp2
      have e2 : (n.net.settle M x.t.Z).2 = k := by rw [Hst.out]
      have e3 : (n.net.settle M x.t.Z).1 = m.t.Z := by rw [Hst.out]
      exact bodyPost_ret (v := .tuple #[.slice m.ga m.t.len m.cap, .int .i64 k]) (by simp [results, Try.results42, go_sem]) rfl ⟨⟨m, by rw [e2], HM.out, HY.out.len, HY.out.wide, e3.symm⟩, HBw.out⟩

end Go.Proofs.Ytjhkadffaephmaa

/-
  signpostlaw.stateIs, NetRounds, NetSettles: the walks.
-/
namespace Go.Proofs.Ytjhkadffaephmaa
set_option maxRecDepth 100000
open Go.RowKit

set_option maxHeartbeats 1000000 in
theorem stateIs_yes (x y : Mat) (E : Int) (k : Nat) (w : World) (hx : x.In k w) (hy : y.In k w) (h0 : E = 0 → x.t.same y.t = true) (h1 : E ≠ 0 → x.t.len = 0) :
    Calls Try.prog 40 #[x.val, .int .i64 E, .int .i64 E, y.val] w fun e w' => e = .returned (.bool true) ∧ ∃ q, w' = w.drewN q := by
  by_cases hE : E = 0
  · subst hE
    have HS := hide (sameState_any x y k w hx hy)
    rw [h0 rfl] at HS
    simp only [Mat.val] at HS ⊢
    clear h0 h1 hx hy
    go_enter Try.func40, Try.ntmps40
    go_wp2_with fail
    go_at_call 43
    refine HS.out.mono ?_
    rintro e w1 ⟨rfl, q, rfl⟩
    go_wp2
    go_ret
    exact ⟨rfl, q, rfl⟩
  · have hsm : x.t.same nilM.t = true := by
      rw [Tab.same_iff]
      exact ⟨h1 hE, fun r hr => by rw [h1 hE] at hr; exact absurd hr (Nat.not_lt_zero _)⟩
    have HS := hide (sameState_any x nilM k w hx (nilM_in _ _))
    rw [hsm] at HS
    have hE' : (E != 0) = true := by simp [hE]
    simp only [Mat.val, nilM] at HS ⊢
    clear h0 h1 hx hy hE hsm
    go_enter Try.func40, Try.ntmps40
    go_wp2_with fail
    go_at_call 43
    refine HS.out.mono ?_
    rintro e w1 ⟨rfl, q, rfl⟩
    go_wp2
    go_ret
    exact ⟨rfl, q, rfl⟩

/-- What stands all through the region of two calls. -/
structure NRG (w : World) (n : NetM) (y b : Mat) (N : Nat) (Zy Zb : Nat → Nat → Int) (ft ck : Int) (W : World) : Prop where
  below : Below w.heap.size w W
  blk : Blk W w.heap.size n.cells 50
  y : StateAns N w.heap.size Zy ft y W
  b : StateAns N w.heap.size Zb ck b W
theorem NRG.keep {w : World} {n : NetM} {y b : Mat} {N : Nat} {Zy Zb : Nat → Nat → Int} {ft ck : Int} {W W' : World} (h : NRG w n y b N Zy Zb ft ck W) (hb : Below W.heap.size W W') : NRG w n y b N Zy Zb ft ck W' :=
  ⟨h.below.trans (hb.mono h.below.size), h.blk.below hb h.blk.lt, h.y.grown hb, h.b.grown hb⟩

theorem StateAns.lower {N lo lo' : Nat} {Z : Nat → Nat → Int} {E : Int} {m : Mat} {W : World} (h : StateAns N lo Z E m W) (hl : lo' ≤ lo) : StateAns N lo' Z E m W := ⟨h.mem, h.own.mono hl, h.ok, h.bad⟩

set_option maxHeartbeats 4000000 in
theorem netRounds_any (n : NetM) (x : Mat) (w : World) (h : n.In w.heap.size w) (hx : x.In w.heap.size w) :
    Calls Try.prog 8 #[n.val, x.val] w fun e w' => e = .returned (.bool true) ∧ Below w.heap.size w w' := by
  have hB0 : Below w.heap.size w (w.alloc (.cells n.cells 50)) := (Below.refl _ w).alloc (Nat.le_refl _) _
  have b0 := Blk.new w n.cells 50
  have HR := hide (netRound_any n x _ (h.grown hB0) (hx.grown hB0))
  have HBg := hide (fun W (hb : Below w.heap.size w W) => netBegin_any n W (h.grown hb))
  have HCk := hide (fun W (hb : Below w.heap.size w W) => refNet_any n W (h.grown hb))
  have HFt := hide (fun W (hb : Below w.heap.size w W) => fitOf_any n x W (h.grown hb) (hx.grown hb))
  have HRo := hide (fun W (hb : Below w.heap.size w W) (hf : n.net.fit x.t = 0) => roundOf_any n x W (h.grown hb) (hx.grown hb) (Net.is_of_fit hf).1 (Net.is_of_fit hf).2)
  have HBo := hide (fun (W : World) (hc : n.net.check = 0) => beginOf_any n W hc)
  have HPc := hide (fun W (hb : Below w.heap.size w W) => netCheck_any n W (h.grown hb))
  have HPf := hide (fun W (hb : Below w.heap.size w W) => netFit_any n x W (h.grown hb) (hx.grown hb))
  have Hfc : Hid (n.net.fit x.t = 0 → n.net.check = 0) := hide (fun hf => (Net.is_of_fit hf).1)
  generalize n.net.check = ck at *
  generalize n.net.fit x.t = ft at *
  clear h hx
  have hcells : n.cells = #[.int .i64 n.a.size, .slice n.a.B.ga n.a.B.t.len n.a.B.cap, .slice n.a.E.ga n.a.E.t.len n.a.E.cap, .int .i64 n.nodes, .slice n.la n.ln n.lc] := rfl
  have Hcells := hide hcells
  have hsz0 : w.heap.size ≤ (w.alloc (.cells n.cells 50)).heap.size := by simp
  simp only [NetM.val, hcells, Mat.val] at HR HBg HCk HFt HRo HBo HPc HPf hB0 b0 ⊢
  clear hcells
  go_enter Try.func8, Try.ntmps8
  go_wp2_with fail
  go_at_call 31
  refine HR.out.mono ?_
  rintro e w1 ⟨⟨y, rfl, hy⟩, hb1⟩
  have hB1 := hB0.trans (hb1.mono hB0.size)
  have b1 := b0.below hb1 b0.lt
  have HY := hide (hy.lower hB0.size)
  have x0 := b1.cell 0
  have x1 := b1.cell 1
  have x2 := b1.cell 2
  have x3 := b1.cell 3
  have x4 := b1.cell 4
  simp at x0 x1 x2 x3 x4
  have HB1 := hide (HBg.out w1 hB1)
  clear HR HBg hB0 b0 hb1 hy hsz0
  go_wp2_with fail
  go_at_call 32
  refine HB1.out.mono ?_
  rintro e w2 ⟨⟨b, rfl, hb⟩, hb2⟩
  have hB2 := hB1.trans (hb2.mono hB1.size)
  have b2 := b1.below hb2 b1.lt
  have HN : Hid (NRG w n y b n.net.N (n.net.round x.t.Z) n.net.begin ft ck w2) := hide ⟨hB2, by rw [Hcells.out]; exact b2, HY.out.grown hb2, hb.lower hB1.size⟩
  clear HB1 HY hB1 b1 hb2 hb hB2 b2 x0 x1 x2 x3 x4
  go_wp2_with fail
  refine wp_region_each (NRG w n y b n.net.N (n.net.round x.t.Z) n.net.begin ft ck)
    (valsE [n.val, .int .i64 ck, n.val, x.val, .int .i64 ft, .int .i64 ck, .int .i64 ft]) (by kernel_rfl) (by kernel_rfl) (by kernel_rfl) (HN.out.keep ⟨rfl, rfl, rfl, Nat.le_refl _, fun _ _ => rfl⟩) ⟨?_, ?_, ?_, ?_, ?_, ?_, ?_, trivial⟩ ?_
  all_goals clear HN
  rotate_right
  · intro t W hG hE
    have e5 := valsE_get (hE 5 (by decide)) rfl
    have e6 := valsE_get (hE 6 (by decide)) rfl
    have HG := hide hG
    have bN := hG.blk
    rw [Hcells.out] at bN
    have x0 := bN.cell 0
    have x1 := bN.cell 1
    have x2 := bN.cell 2
    have x3 := bN.cell 3
    have x4 := bN.cell 4
    simp at x0 x1 x2 x3 x4
    clear hE hG
    simp only [fill, Act.put, List.setIfInBounds_toArray, List.set_cons_zero, List.set_cons_succ, e5, e6]
    by_cases hf : ft = 0
    · have hc := Hfc.out hf
      have HR1 := hide (HRo.out W HG.out.below hf)
      subst hf
      subst hc
      clear HRo Hfc
      go_wp2_with fail
      go_at_call 35
      refine HR1.out.mono ?_
      rintro e w3 ⟨⟨m, rfl, hm⟩, hb3⟩
      have HG3 := hide (HG.out.keep hb3)
      have bN3 := HG3.out.blk
      rw [Hcells.out] at bN3
      have y0 := bN3.cell 0
      have y1 := bN3.cell 1
      have y2 := bN3.cell 2
      have y3 := bN3.cell 3
      have y4 := bN3.cell 4
      simp at y0 y1 y2 y3 y4
      have HM := hide hm
      have HB2 := hide (HBo.out w3 (by trivial))
      clear hb3 hm HR1 HG x0 x1 x2 x3 x4 bN3 HBo
      go_wp2_with fail
      go_at_call 36
      refine HB2.out.mono ?_
      rintro e w4 ⟨⟨m2, rfl, hm2⟩, hb4⟩
      have HG4 := hide (HG3.out.keep hb4)
      have HM4 := hide (HM.out.grown hb4)
      have HM2 := hide hm2
      clear hb4 hm2 HB2 HG3 HM y0 y1 y2 y3 y4
      go_wp2_with fail
      go_at_call 37
      refine (netBegun_any _).mono ?_
      rintro e w5 ⟨rfl, hb5⟩
      have HG5 := hide (HG4.out.keep hb5)
      have HM5 := hide (HM4.out.grown hb5)
      have HM6 := hide (HM2.out.grown hb5)
      have bN5 := HG5.out.blk
      rw [Hcells.out] at bN5
      have y0 := bN5.cell 0
      have y1 := bN5.cell 1
      have y2 := bN5.cell 2
      have y3 := bN5.cell 3
      have y4 := bN5.cell 4
      simp at y0 y1 y2 y3 y4
      have HP1 := hide (HPc.out w5 HG5.out.below)
      clear hb5 HG4 HM4 HM2 bN5 HPc
      go_wp2_with fail
      go_at_call 38
      refine HP1.out.mono ?_
      rintro e w6 ⟨rfl, hb6⟩
      have HG6 := hide (HG5.out.keep hb6)
      have HM7 := hide (HM5.out.grown hb6)
      have HM8 := hide (HM6.out.grown hb6)
      have bN6 := HG6.out.blk
      rw [Hcells.out] at bN6
      clear y0 y1 y2 y3 y4
      have y0 := bN6.cell 0
      have y1 := bN6.cell 1
      have y2 := bN6.cell 2
      have y3 := bN6.cell 3
      have y4 := bN6.cell 4
      simp at y0 y1 y2 y3 y4
      have HP2 := hide (HPf.out w6 HG6.out.below)
      clear hb6 HG5 HM5 HM6 bN6 HPf HP1
      go_wp2_with fail
      go_at_call 39
      refine HP2.out.mono ?_
      rintro e w7 ⟨rfl, hb7⟩
      have HG7 := hide (HG6.out.keep hb7)
      have HM9 := hide (HM7.out.grown hb7)
      have HM10 := hide (HM8.out.grown hb7)
      have HS1 := hide (stateIs_yes y m 0 w7.heap.size w7 HG7.out.y.mem HM9.out.2.1 (fun _ => by rw [HG7.out.y.ok rfl, HM9.out.1]; exact Tab.same_refl _) (fun h => absurd rfl h))
      have HS2 := hide (fun z => stateIs_yes b m2 0 w7.heap.size (w7.drewN z) (HG7.out.b.grown (below_drewN (Below.refl _ _) z)).mem (HM10.out.grown (below_drewN (Below.refl _ _) z)).2.1 (fun _ => by rw [HG7.out.b.ok rfl, HM10.out.1]; exact Tab.same_refl _) (fun h => absurd rfl h))
      simp only [Mat.val] at HS1 HS2
      have HBf := hide HG7.out.below
      clear hb7 HG6 HM7 HM8 HP2 y0 y1 y2 y3 y4 HG7 HM9 HM10
      go_wp2_with fail
      go_at_call 40
      refine HS1.out.mono ?_
      rintro e w8 ⟨rfl, z, rfl⟩
      go_wp2_with fail
      go_at_call 40
      refine (HS2.out z).mono ?_
      rintro e w9 ⟨rfl, z2, rfl⟩
      go_wp2
      go_ret
      exact ⟨rfl, below_drewN HBf.out _⟩
    · have hf' : (ft == 0) = false := by simp [hf]
      have Hf := hide hf
      by_cases hc : ck = 0
      · have HB2 := hide (HBo.out W hc)
        subst hc
        clear HBo HRo Hfc hf
        go_wp2_with fail
        go_at_call 36
        refine HB2.out.mono ?_
        rintro e w4 ⟨⟨m2, rfl, hm2⟩, hb4⟩
        have HG4 := hide (HG.out.keep hb4)
        have HM2 := hide hm2
        clear hb4 hm2 HB2 HG x0 x1 x2 x3 x4
        go_wp2_with fail
        go_at_call 37
        refine (netBegun_any _).mono ?_
        rintro e w5 ⟨rfl, hb5⟩
        have HG5 := hide (HG4.out.keep hb5)
        have HM6 := hide (HM2.out.grown hb5)
        have bN5 := HG5.out.blk
        rw [Hcells.out] at bN5
        have y0 := bN5.cell 0
        have y1 := bN5.cell 1
        have y2 := bN5.cell 2
        have y3 := bN5.cell 3
        have y4 := bN5.cell 4
        simp at y0 y1 y2 y3 y4
        have HP1 := hide (HPc.out w5 HG5.out.below)
        clear hb5 HG4 HM2 bN5 HPc
        go_wp2_with fail
        go_at_call 38
        refine HP1.out.mono ?_
        rintro e w6 ⟨rfl, hb6⟩
        have HG6 := hide (HG5.out.keep hb6)
        have HM8 := hide (HM6.out.grown hb6)
        have bN6 := HG6.out.blk
        rw [Hcells.out] at bN6
        clear y0 y1 y2 y3 y4
        have y0 := bN6.cell 0
        have y1 := bN6.cell 1
        have y2 := bN6.cell 2
        have y3 := bN6.cell 3
        have y4 := bN6.cell 4
        simp at y0 y1 y2 y3 y4
        have HP2 := hide (HPf.out w6 HG6.out.below)
        clear hb6 HG5 HM6 bN6 HPf HP1
        go_wp2_with fail
        go_at_call 39
        refine HP2.out.mono ?_
        rintro e w7 ⟨rfl, hb7⟩
        have HG7 := hide (HG6.out.keep hb7)
        have HM10 := hide (HM8.out.grown hb7)
        have HS1 := hide (stateIs_yes y nilM ft w7.heap.size w7 HG7.out.y.mem (nilM_in _ _) (fun h => absurd h Hf.out) (fun h => HG7.out.y.bad h))
        have HS2 := hide (fun z => stateIs_yes b m2 0 w7.heap.size (w7.drewN z) (HG7.out.b.grown (below_drewN (Below.refl _ _) z)).mem (HM10.out.grown (below_drewN (Below.refl _ _) z)).2.1 (fun _ => by rw [HG7.out.b.ok rfl, HM10.out.1]; exact Tab.same_refl _) (fun h => absurd rfl h))
        simp only [Mat.val, nilM] at HS1 HS2
        have HBf := hide HG7.out.below
        have hff : (ft == ft) = true := beq_self_eq_true _
        clear hb7 HG6 HM8 HP2 y0 y1 y2 y3 y4 HG7 HM10
        go_wp2_with fail
        go_at_call 40
        refine HS1.out.mono ?_
        rintro e w8 ⟨rfl, z, rfl⟩
        go_wp2_with fail
        go_at_call 40
        refine (HS2.out z).mono ?_
        rintro e w9 ⟨rfl, z2, rfl⟩
        go_wp2
        go_ret
        exact ⟨rfl, below_drewN HBf.out _⟩
      · have hc' : (ck == 0) = false := by simp [hc]
        have Hc := hide hc
        clear HBo HRo Hfc hf hc x0 x1 x2 x3 x4
        go_wp2_with fail
        go_at_call 37
        refine (netBegun_any _).mono ?_
        rintro e w5 ⟨rfl, hb5⟩
        have HG5 := hide (HG.out.keep hb5)
        have bN5 := HG5.out.blk
        rw [Hcells.out] at bN5
        have y0 := bN5.cell 0
        have y1 := bN5.cell 1
        have y2 := bN5.cell 2
        have y3 := bN5.cell 3
        have y4 := bN5.cell 4
        simp at y0 y1 y2 y3 y4
        have HP1 := hide (HPc.out w5 HG5.out.below)
        have hcc : (ck == ck) = true := beq_self_eq_true _
        clear hb5 HG bN5 HPc
        go_wp2_with fail
        go_at_call 38
        refine HP1.out.mono ?_
        rintro e w6 ⟨rfl, hb6⟩
        have HG6 := hide (HG5.out.keep hb6)
        have bN6 := HG6.out.blk
        rw [Hcells.out] at bN6
        clear y0 y1 y2 y3 y4
        have y0 := bN6.cell 0
        have y1 := bN6.cell 1
        have y2 := bN6.cell 2
        have y3 := bN6.cell 3
        have y4 := bN6.cell 4
        simp at y0 y1 y2 y3 y4
        have HP2 := hide (HPf.out w6 HG6.out.below)
        clear hb6 HG5 bN6 HPf HP1
        go_wp2_with fail
        go_at_call 39
        refine HP2.out.mono ?_
        rintro e w7 ⟨rfl, hb7⟩
        have HG7 := hide (HG6.out.keep hb7)
        have HS1 := hide (stateIs_yes y nilM ft w7.heap.size w7 HG7.out.y.mem (nilM_in _ _) (fun h => absurd h Hf.out) (fun h => HG7.out.y.bad h))
        have HS2 := hide (fun z => stateIs_yes b nilM ck w7.heap.size (w7.drewN z) (HG7.out.b.grown (below_drewN (Below.refl _ _) z)).mem (nilM_in _ _) (fun h => absurd h Hc.out) (fun h => HG7.out.b.bad h))
        simp only [Mat.val, nilM] at HS1 HS2
        have HBf := hide HG7.out.below
        have hff : (ft == ft) = true := beq_self_eq_true _
        clear hb7 HG6 HP2 y0 y1 y2 y3 y4 HG7
        go_wp2_with fail
        go_at_call 40
        refine HS1.out.mono ?_
        rintro e w8 ⟨rfl, z, rfl⟩
        go_wp2_with fail
        go_at_call 40
        refine (HS2.out z).mono ?_
        rintro e w9 ⟨rfl, z2, rfl⟩
        go_wp2
        go_ret
        exact ⟨rfl, below_drewN HBf.out _⟩
  all_goals intro t W hG hp K hK
  all_goals simp only [fill, Act.put, List.setIfInBounds_toArray, List.set_cons_zero, List.set_cons_succ] at hK ⊢
  all_goals rw [if_pos (by rfl)]
  · have bN := hG.blk
    rw [Hcells.out] at bN
    have x0 := bN.cell 0
    have x1 := bN.cell 1
    have x2 := bN.cell 2
    have x3 := bN.cell 3
    have x4 := bN.cell 4
    simp at x0 x1 x2 x3 x4
    go_simp
    exact hK _ W hG rfl (fun _ _ _ h => h)
  · have e0 := valsE_get (hp 0 (by decide)) rfl
    rw [NetM.val, Hcells.out] at e0
    simp only [e0] at hK ⊢
    go_simp
    go_at_call 33
    refine (HCk.out W hG.below).mono ?_
    rintro e W' ⟨rfl, hb⟩
    go_simp
    exact hK _ W' (hG.keep hb) rfl (fun _ _ _ h => h)
  · have bN := hG.blk
    rw [Hcells.out] at bN
    have x0 := bN.cell 0
    have x1 := bN.cell 1
    have x2 := bN.cell 2
    have x3 := bN.cell 3
    have x4 := bN.cell 4
    simp at x0 x1 x2 x3 x4
    go_simp
    exact hK _ W hG rfl (fun _ _ _ h => h)
  · go_simp
    exact hK _ W hG rfl (fun _ _ _ h => h)
  · have e2 := valsE_get (hp 2 (by decide)) rfl
    have e3 := valsE_get (hp 3 (by decide)) rfl
    rw [NetM.val, Hcells.out] at e2
    rw [Mat.val] at e3
    simp only [e2, e3] at hK ⊢
    go_simp
    go_at_call 34
    refine (HFt.out W hG.below).mono ?_
    rintro e W' ⟨rfl, hb⟩
    go_simp
    exact hK _ W' (hG.keep hb) rfl (fun _ _ _ h => h)
  · have e1 := valsE_get (hp 1 (by decide)) rfl
    simp only [e1] at hK ⊢
    go_simp
    exact hK _ W hG rfl (fun _ _ _ h => h)
  · have e4 := valsE_get (hp 4 (by decide)) rfl
    simp only [e4] at hK ⊢
    go_simp
    exact hK _ W hG rfl (fun _ _ _ h => h)

set_option maxHeartbeats 4000000 in
theorem netSettles_any (n : NetM) (x : Mat) (most : Int) (w : World) (h : n.In w.heap.size w) (hx : x.In w.heap.size w) :
    Calls Try.prog 9 #[n.val, x.val, .int .i64 most] w fun e w' => e = .returned (.bool true) ∧ Below w.heap.size w w' := by
  have hB0 : Below w.heap.size w (w.alloc (.cells n.cells 50)) := (Below.refl _ w).alloc (Nat.le_refl _) _
  have b0 := Blk.new w n.cells 50
  have HS := hide (netSettle_any n x most _ (h.grown hB0) (hx.grown hB0))
  have HFt := hide (fun W (hb : Below w.heap.size w W) => fitOf_any n x W (h.grown hb) (hx.grown hb))
  have HSo := hide (fun W (hb : Below w.heap.size w W) (hf : n.net.fit x.t = 0) (hm : most.toNat ≤ 1000) => settleOf_any n x most.toNat W (h.grown hb) (hx.grown hb) hf hm)
  have Hd : Hid (n.net.settleE x.t most = if n.net.fit x.t ≠ 0 then n.net.fit x.t else if most < 0 ∨ 1000 < most then 3 else 0) := hide rfl
  generalize n.net.settleE x.t most = E at *
  generalize n.net.fit x.t = ft at *
  clear h hx
  simp only [NetM.val, NetM.cells, Mat.val] at HS HFt HSo hB0 b0 ⊢
  go_enter Try.func9, Try.ntmps9
  go_wp2_with fail
  go_at_call 41
  refine HS.out.mono ?_
  rintro e w1 ⟨⟨y, k, rfl, hy, hk1, hk2⟩, hb1⟩
  have hB1 := hB0.trans (hb1.mono hB0.size)
  have b1 := b0.below hb1 b0.lt
  have HY := hide hy
  have HK1 := hide hk1
  have HK2 := hide hk2
  have x0 := b1.cell 0
  have x1 := b1.cell 1
  have x2 := b1.cell 2
  have x3 := b1.cell 3
  have x4 := b1.cell 4
  simp at x0 x1 x2 x3 x4
  have HF1 := hide (HFt.out w1 hB1)
  clear HS HFt hB0 b0 hb1 hy hk1 hk2
  go_wp2_with fail
  go_at_call 34
  refine HF1.out.mono ?_
  rintro e w2 ⟨rfl, hb2⟩
  have hB2 := hB1.trans (hb2.mono hB1.size)
  have b2 := b1.below hb2 b1.lt
  have HY2 := hide (HY.out.grown hb2)
  clear HF1 HY hB1 b1 hb2 x0 x1 x2 x3 x4
  by_cases hE : E = 0
  · have hf : ft = 0 := by
      apply Classical.byContradiction
      intro hn
      rw [Hd.out, if_pos hn] at hE
      exact hn hE
    have hm : 0 ≤ most ∧ most ≤ 1000 := by
      apply Classical.byContradiction
      intro hn
      rw [Hd.out, if_neg (by simp [hf]), if_pos (by omega)] at hE
      cases hE
    have hmc : (most.toNat : Int) = most := by omega
    have HS2 := hide (HSo.out w2 hB2 hf (by omega))
    rw [hmc] at HS2
    have hk := HK1.out hE
    subst hf
    subst hE
    subst hk
    obtain ⟨hm0, hm1⟩ := hm
    have x0 := b2.cell 0
    have x1 := b2.cell 1
    have x2 := b2.cell 2
    have x3 := b2.cell 3
    have x4 := b2.cell 4
    simp at x0 x1 x2 x3 x4
    have HB2 := hide hB2
    clear HSo Hd HK1 HK2 hmc hB2
    go_wp2_with fail
    go_at_call 42
    refine HS2.out.mono ?_
    rintro e w3 ⟨⟨m, rfl, hmI, hml, hmw, hmz⟩, hb3⟩
    have HB3 := hide (HB2.out.trans (hb3.mono HB2.out.size))
    have HY3 := hide (HY2.out.grown hb3)
    have HM := hide hmI
    have Hsm : Hid (y.t.same m.t = true) := hide (by
      rw [Tab.same_iff, HY2.out.ok rfl]
      refine ⟨hml.symm, fun r hr => ⟨(hmw r hr).symm, fun c _ => ?_⟩⟩
      rw [hmz])
    clear HS2 HB2 hb3 hmI hml hmw hmz HY2 x0 x1 x2 x3 x4 b2
    go_wp2_with fail
    go_at_call 37
    refine (netBegun_any _).mono ?_
    rintro e w4 ⟨rfl, hb4⟩
    have HB4 := hide (HB3.out.trans (hb4.mono HB3.out.size))
    have HI := hide (stateIs_yes y m 0 w4.heap.size w4 (HY3.out.grown hb4).mem (HM.out.grown hb4) (fun _ => Hsm.out) (fun h => absurd rfl h))
    simp only [Mat.val] at HI
    have hkk : ((((n.net.settle most.toNat x.t.Z).2 : Nat) : Int) == (((n.net.settle most.toNat x.t.Z).2 : Nat) : Int)) = true := beq_self_eq_true _
    clear HB3 hb4 HY3 HM Hsm
    go_wp2_with fail
    go_at_call 40
    refine HI.out.mono ?_
    rintro e w5 ⟨rfl, z, rfl⟩
    go_wp2
    go_ret
    exact ⟨rfl, below_drewN HB4.out _⟩
  · have hk := HK2.out hE
    subst hk
    have hcase : (ft ≠ 0 ∧ E = ft) ∨ (ft = 0 ∧ most < 0 ∧ E = 3) ∨ (ft = 0 ∧ 0 ≤ most ∧ 1000 < most ∧ E = 3) := by
      by_cases hf : ft = 0
      · by_cases h0 : most < 0
        · exact Or.inr (Or.inl ⟨hf, h0, by rw [Hd.out, if_neg (by simp [hf]), if_pos (Or.inl h0)]⟩)
        · by_cases h1 : 1000 < most
          · exact Or.inr (Or.inr ⟨hf, by omega, h1, by rw [Hd.out, if_neg (by simp [hf]), if_pos (Or.inr h1)]⟩)
          · exact absurd (by rw [Hd.out, if_neg (by simp [hf]), if_neg (by omega)]) hE
      · exact Or.inl ⟨hf, by rw [Hd.out, if_pos hf]⟩
    have HB2 := hide hB2
    have HE := hide hE
    clear HSo Hd HK1 HK2 hB2 hE b2
    rcases hcase with ⟨hf, hv⟩ | ⟨hf, h0, hv⟩ | ⟨hf, h0, h1, hv⟩
    all_goals
      first
      | (have hf' : (ft == 0) = false := by simp [hf])
      | skip
      first
      | subst hf
      | (clear hf)
      subst hv
      go_wp2_with fail
      go_at_call 37
      refine (netBegun_any _).mono ?_
      rintro e w4 ⟨rfl, hb4⟩
      have HB4 := hide (HB2.out.trans (hb4.mono HB2.out.size))
      have HI := hide (stateIs_yes y nilM _ w4.heap.size w4 (HY2.out.grown hb4).mem (nilM_in _ _) (fun h => absurd h HE.out) (fun h => HY2.out.bad h))
      simp only [Mat.val, nilM] at HI
      clear HB2 hb4
      go_wp2_with fail
      go_at_call 40
      refine HI.out.mono ?_
      rintro e w5 ⟨rfl, z, rfl⟩
      go_wp2
      go_ret
      exact ⟨rfl, below_drewN HB4.out _⟩

end Go.Proofs.Ytjhkadffaephmaa
