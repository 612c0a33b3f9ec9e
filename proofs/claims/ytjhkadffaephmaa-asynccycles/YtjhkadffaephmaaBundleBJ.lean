/-
  Our own texts, bundled: a claim holds few files.
-/
import Derived.Test.YtjhkadffaephmaaBundleBI
import Derived.Test.YtjhkadffaephmaaBundleAJ
import Derived.Test.YtjhkadffaephmaaBundleBG
/-
  signpostref.Column, RoundOf.
-/
namespace Go.Proofs.Ytjhkadffaephmaa
set_option maxRecDepth 100000
open Go.RowKit

set_option maxHeartbeats 2000000 in
theorem column_any (x : Mat) (N j : Nat) (w : World) (h : x.In w.heap.size w) (hl : x.t.len = N) (hw : ∀ r, r < N → x.t.L r = N) (hN : 0 < N) (hN6 : N ≤ 6) (hj : j < N) :
    Calls Try.prog 78 #[x.val, .int .i64 j] w fun e w' => ∃ g c : Nat, e = .returned (.slice (some ⟨g, 0, none⟩) N c) ∧ Below w.heap.size w w' ∧ g < w'.heap.size ∧ Ints (some ⟨g, 0, none⟩) N g 0 (fun k => x.t.Z k j) w' := by
  obtain ⟨i1, hi1, hy0, hy1, hy2⟩ := info_parts Try.infoInt
  have H := hide h
  have HW := hide hw
  have HL := hide hl
  simp only [Mat.val, hl]
  clear h hw hl
  go_enter Try.func78, Try.ntmps78
  go_wp2_with fail
  go_loopw [5, 6] (fun s q wr => ∃ k : Nat, k ≤ N ∧ q = .int .i64 k ∧ Hid (wr.ownsRow w.heap.size 3 1 s k (intsL (fun k => x.t.Z k j) k)) ∧ Hid (Below w.heap.size w wr)) (fun _ q _ => N - (intOf q).toNat)
  case atStart => exact ⟨0, Nat.zero_le _, rfl, hide (World.ownsRow_nil w _ _ 1), hide (Below.refl _ _)⟩
  case round =>
    obtain ⟨k, hk, rfl, HO, HB⟩ := hrel
    by_cases hlt : k < N
    · have hki : (k : Int) < (N : Int) := by omega
      have hkl : k < x.t.len := by rw [HL.out]; exact hlt
      obtain ⟨a1, a2, a3⟩ := (H.out.below HB.out (Nat.le_refl _)).at hkl (show j < x.t.L k by rw [HW.out k hlt]; exact hj)
      rw [HW.out k hlt] at a2
      have hji : (j : Int) < (N : Int) := by omega
      go_wp2_with (at_builtin; refine wpList_append_lies _ rfl _ _ _ rfl w.heap.size 3 i1 _ 1 8 Try.underlying32 hi1 hy0 hy1 hy2 rfl (by decide) _ k _ rfl (HO.out.alloc _) ⟨wr.heap.size, 0, none⟩ 1 1 [.int .i64 (x.t.Z k j)] rfl rfl ?c1 ?c2 (by decide) ?c3 ?c4 ?c5 _ rfl ?_)
      all_goals try (case c1 => exact World.news_of_block (Blk.new' (by simp)))
      all_goals try (case c2 => simp [Value.oneCell'])
      all_goals try (case c3 => unfold maxLen; omega)
      all_goals try (case c4 => omega)
      all_goals try (case c5 => have := HB.out.size; simp; omega)
      intro g' cap' w2 hown2 hgrow hat2 hlt2
      have HO2 := hide (show w2.ownsRow w.heap.size 3 1 _ (k + 1) (intsL (fun k => x.t.Z k j) (k + 1)) by rw [intsL_succ]; exact hown2)
      have HB2 := hide ((HB.out.alloc HB.out.size _).trans (grown_below hgrow (fun g hg => (HO.out.lt g hg).1) (by have := HB.out.size; simp; omega)))
      clear hown2 hgrow hat2 hlt2
      go_wp2
      go_roundw
      case rel =>
        first
        | exact ⟨k + 1, by omega, by go_num, HO2, HB2⟩
        | ((try rw [← a1]); (repeat apply Exists.intro); refine ⟨?_, rfl⟩; exact ⟨k + 1, by omega, by go_num, HO2, HB2⟩)
      case measure => simp [intOf]; omega
    · have hkn : k = N := by omega
      subst hkn
      have hki : (k : Int) ≤ (k : Int) := Int.le_refl _
      obtain ⟨g, c, rfl, _, hlt2⟩ := HO.out.form (by omega)
      have HI : Hid (Ints (some ⟨g, 0, none⟩) k g 0 (fun r => x.t.Z r j) wr) := hide ⟨fun _ => rfl, fun r hr => by rw [Nat.zero_add, HO.out.cellAt r (by omega), intsL_get hr], by unfold maxLen; omega⟩
      go_wp2
      go_ret
      exact ⟨g, c, rfl, HB.out, hlt2, HI.out⟩

/-- i rows of the round, and j routes of the next. -/
structure RndI (w1 : World) (N : Nat) (Z : Nat → Nat → Int) (Vo : Value) (i H : Nat) (Vr : Value) (j : Nat) (W : World) : Prop where
  below : Below w1.heap.size w1 W
  tab : OwnTab w1.heap.size H Vo i N Z W
  lo : w1.heap.size ≤ H
  hi : H ≤ W.heap.size
  row : W.ownsRow H 3 1 Vr j (intsL (Z i) j)
theorem RndI.keep {w1 : World} {N : Nat} {Z : Nat → Nat → Int} {Vo : Value} {i H : Nat} {Vr : Value} {j : Nat} {W W' : World} (h : RndI w1 N Z Vo i H Vr j W) (hb : Below W.heap.size W W') : RndI w1 N Z Vo i H Vr j W' :=
  ⟨h.below.trans (hb.mono h.below.size), h.tab.below hb, h.lo, Nat.le_trans h.hi hb.size, owns_below h.row hb⟩
theorem RndI.push {w1 : World} {N : Nat} {Z : Nat → Nat → Int} {Vo : Value} {i H : Nat} {Vr V' : Value} {j : Nat} {W W' : World} (h : RndI w1 N Z Vo i H Vr j W) (hg : W.grownBy W' Vr.ownBlock)
    (ho : W'.ownsRow H 3 1 V' (j + 1) (intsL (Z i) j ++ [.int .i64 (Z i j)])) : RndI w1 N Z Vo i H V' (j + 1) W' :=
  ⟨h.below.trans (grown_below hg (fun g hg => by have := (h.row.lt g hg).1; have := h.lo; omega) h.below.size), h.tab.kept hg (fun k hk => Or.inr (h.row.lt k hk).1), h.lo, Nat.le_trans h.hi hg.size, by rw [intsL_succ]; exact ho⟩

/-- What the operations of the inner region leave. -/
def RndE (n : NetM) (x : Mat) (N : Nat) (Vr : Value) (i j : Nat) (k : Nat) (v : Value) (W : World) : Prop :=
  match k with
  | 0 => v = Vr
  | 1 => v = n.val
  | 2 => v = .int .i64 i
  | 3 => v = .int .i64 j
  | 4 => v = x.val
  | 5 => v = .int .i64 j
  | 6 => ∃ g c : Nat, v = .slice (some ⟨g, 0, none⟩) N c ∧ g < W.heap.size ∧ Ints (some ⟨g, 0, none⟩) N g 0 (fun r => x.t.Z r j) W
  | 7 => v = .int .i64 (n.net.round x.t.Z i j)
  | _ => ∃ b : Nat, v = .slice (some ⟨b, 0, none⟩) 1 1 ∧ Blk W b #[.int .i64 (n.net.round x.t.Z i j)] 3
theorem RndE.keep {n : NetM} {x : Mat} {N : Nat} {Vr : Value} {i j : Nat} {W W' : World} (hb : Below W.heap.size W W') (k : Nat) (v : Value) (h : RndE n x N Vr i j k v W) : RndE n x N Vr i j k v W' := by
  unfold RndE at *
  split at h
  all_goals first | exact h | skip
  · obtain ⟨g, c, h1, h2, h3⟩ := h
    exact ⟨g, c, h1, Nat.lt_of_lt_of_le h2 hb.size, h3.below hb (fun _ => h2)⟩
  · obtain ⟨b, h1, h2⟩ := h
    exact ⟨b, h1, h2.below hb h2.lt⟩

set_option maxHeartbeats 4000000 in
theorem roundOf_any (n : NetM) (x : Mat) (w : World) (h : n.In w.heap.size w) (hx : x.In w.heap.size w) (hck : n.net.check = 0) (his : n.net.Is x.t) :
    Calls Try.prog 35 #[n.val, x.val] w fun e w' => (∃ m : Mat, e = .returned m.val ∧ Fresh n.net.N w.heap.size (n.net.round x.t.Z) m w') ∧ Below w.heap.size w w' := by
  have g := Net.good_of_check hck
  have lo := g.lo
  have hi6 := g.hi
  obtain ⟨N, hN⟩ : ∃ N : Nat, n.nodes = N := ⟨n.nodes.toNat, by have : n.net.nodes = n.nodes := rfl; omega⟩
  have hNN : n.net.N = N := by show n.nodes.toNat = N; omega
  have hN6 : N ≤ 6 := by have : n.net.nodes = n.nodes := rfl; omega
  have hN1 : 0 < N := by have : n.net.nodes = n.nodes := rfl; omega
  obtain ⟨i1, hi1, hy0, hy1, hy2⟩ := info_parts Try.infoInt
  obtain ⟨i2, hi2, hx0, hx1, hx2⟩ := info_parts Try.infoInts
  have hcells : n.cells = #[.int .i64 n.a.size, .slice n.a.B.ga n.a.B.t.len n.a.B.cap, .slice n.a.E.ga n.a.E.t.len n.a.E.cap, .int .i64 N, .slice n.la n.ln n.lc] := by simp only [NetM.cells, Mat.val, hN]
  have HCol := hide (fun (j : Nat) (hj : j < N) W (hb : Below w.heap.size w W) => column_any x N j W (hx.grown hb) (by rw [← hNN]; exact his.len) (fun r hr => by rw [← hNN]; exact his.wide r (by rw [hNN]; exact hr)) hN1 hN6 hj)
  have HRt := hide (fun (i j g c : Nat) (hj : j < N) W (hb : Below w.heap.size w W) (hgl : g < W.heap.size) (hI : Ints (some ⟨g, 0, none⟩) N g 0 (fun r => x.t.Z r j) W) =>
    routeOf_any n i j (some ⟨g, 0, none⟩) c g 0 (fun r => x.t.Z r j) W (h.grown hb) hck (by rw [hNN]; exact hI) hgl (fun r hr => his.state r j hr (by rw [hNN]; exact hj)))
  rw [hNN] at HRt
  have HNN := hide hNN
  have hval : n.val = .agg #[.int .i64 n.a.size, .slice n.a.B.ga n.a.B.t.len n.a.B.cap, .slice n.a.E.ga n.a.E.t.len n.a.E.cap, .int .i64 N, .slice n.la n.ln n.lc] := by rw [NetM.val, hcells]
  have Hval := hide hval
  simp only [Mat.val] at HCol ⊢
  rw [hval] at HRt ⊢
  obtain ⟨W0, hW0⟩ : ∃ W0, W0 = w.alloc (.cells #[.int .i64 n.a.size, .slice n.a.B.ga n.a.B.t.len n.a.B.cap, .slice n.a.E.ga n.a.E.t.len n.a.E.cap, .int .i64 N, .slice n.la n.ln n.lc] 50) := ⟨_, rfl⟩
  have B0 : Hid (Below w.heap.size w W0) := hide (by rw [hW0]; exact (Below.refl _ w).alloc (Nat.le_refl _) _)
  have Hb0 : Hid (Blk W0 w.heap.size #[.int .i64 n.a.size, .slice n.a.B.ga n.a.B.t.len n.a.B.cap, .slice n.a.E.ga n.a.E.t.len n.a.E.cap, .int .i64 N, .slice n.la n.ln n.lc] 50) := hide (by rw [hW0]; exact Blk.new w _ _)
  clear hN hcells hval h hck hNN lo hi6 g hx his
  go_enter Try.func35, Try.ntmps35
  go_wp2_with fail
  rw [← hW0]
  clear hW0
  go_loopw [5, 6, 7, 8] (fun s q _ _ wr => ∃ i : Nat, i ≤ N ∧ q = .int .i64 i ∧ Hid (OwnTab W0.heap.size wr.heap.size s i N (n.net.round x.t.Z) wr) ∧ Hid (Below W0.heap.size W0 wr)) (fun _ q _ _ _ => N - (intOf q).toNat)
  case atStart => exact ⟨0, Nat.zero_le _, rfl, hide (OwnTab.nil _ _ _ _ _), hide (Below.refl _ _)⟩
  case round =>
    obtain ⟨i, hi, rfl, HT, HB⟩ := hrel
    have bN := Hb0.out.below HB.out Hb0.out.lt
    have x3 := bN.cell 3
    simp at x3
    by_cases hlt : i < N
    · have hii : (i : Int) < (N : Int) := by omega
      obtain ⟨Vo, hVo⟩ : ∃ Vo, Vo = u5 := ⟨_, rfl⟩
      obtain ⟨H, hH⟩ : ∃ H, H = wr.heap.size := ⟨_, rfl⟩
      have HI0 : Hid (RndI W0 N (n.net.round x.t.Z) Vo i H (.slice none 0 0) 0 wr) := hide (by
        rw [hVo, hH]
        exact ⟨HB.out, HT.out, HB.out.size, Nat.le_refl _, World.ownsRow_nil wr _ _ 1⟩)
      clear HT HB bN
      go_wp2_with fail
      rw [← hVo]
      clear hVo hH x3
      go_loopw [7, 8] (fun s q wr => ∃ j : Nat, j ≤ N ∧ q = .int .i64 j ∧ Hid (RndI W0 N (n.net.round x.t.Z) Vo i H s j wr)) (fun _ q _ => N - (intOf q).toNat)
      case atStart => exact ⟨0, Nat.zero_le _, rfl, HI0⟩
      case round =>
        clear HI0
        obtain ⟨j, hj, rfl, HJ⟩ := hrel
        obtain ⟨Vr, hVr⟩ : ∃ Vr, Vr = u7 := ⟨_, rfl⟩
        have bN := Hb0.out.below HJ.out.below Hb0.out.lt
        have x3 := bN.cell 3
        simp at x3
        by_cases hjl : j < N
        · have hji : (j : Int) < (N : Int) := by omega
          rw [← hVr] at HJ
          go_wp2_with fail
          rw [← hVr]
          clear hVr x3 bN
          refine wp_region_last 9 _ (RndI W0 N (n.net.round x.t.Z) Vo i H Vr j) (RndE n x N Vr i j) (fun v W => RndI W0 N (n.net.round x.t.Z) Vo i H v (j + 1) W) (fun _ v u => v = u)
            (by kernel_rfl) (by kernel_rfl) (by kernel_rfl) (by kernel_rfl) (by kernel_rfl) rfl (HJ.out.keep ⟨rfl, rfl, rfl, Nat.le_refl _, fun _ _ => rfl⟩) ⟨?_, ?_, ?_, ?_, ?_, ?_, ?_, ?_, ?_, trivial⟩ ?_ ⟨?_, trivial⟩ ?_
          rotate_right
          · intro t W hG hE'
            have e10 : t 10 = t 9 := hE' 10 (by omega) (by decide)
            have HG := hide hG
            clear hG hE'
            simp only [fill, Act.put, List.setIfInBounds_toArray, List.set_cons_zero, List.set_cons_succ, e10]
            generalize t 9 = V9 at *
            go_wp2
            go_roundw
            case rel =>
              first
              | exact ⟨j + 1, by omega, by go_num, HG⟩
              | ((repeat apply Exists.intro); refine ⟨?_, rfl⟩; exact ⟨j + 1, by omega, by go_num, HG⟩)
            case measure => simp [intOf]; omega
          rotate_right
          · intro t W hG K hK
            simp only [fill, Act.put, List.setIfInBounds_toArray, List.set_cons_zero, List.set_cons_succ] at hK ⊢
            rw [if_pos (by rfl)]
            go_simp
            exact hK _ rfl
          rotate_right
          · intro t W hG hE _ K hK
            have e0 : t 0 = Vr := hE 0 (by omega)
            obtain ⟨b, e8, hbk⟩ := hE 8 (by omega)
            simp only [fill, Act.put, List.setIfInBounds_toArray, List.set_cons_zero, List.set_cons_succ, e0, e8] at hK ⊢
            rw [if_pos (by rfl)]
            refine wp_append_lies W _ _ _ (by rfl) H 3 i1 _ 1 8 Try.underlying32 hi1 hy0 hy1 hy2 rfl (by decide) Vr j _ (by rfl) hG.row ⟨b, 0, none⟩ 1 1 [.int .i64 (n.net.round x.t.Z i j)] (by rfl) rfl (World.news_of_block hbk) (by simp [Value.oneCell']) (by decide) (by unfold maxLen; omega) (by omega) hG.hi _ rfl ?_
            intro g c w1 hown hgrow hat _
            exact hK _ w1 (hG.push hgrow hown)
          all_goals intro t W hG hp ht K hK
          all_goals have e10 : t 10 = Vr := ht 10 (by omega)
          all_goals clear ht
          all_goals simp only [fill, Act.put, List.setIfInBounds_toArray, List.set_cons_zero, List.set_cons_succ, e10] at hK ⊢
          all_goals clear e10
          all_goals rw [if_pos (by rfl)]
          · go_simp
            exact hK _ W hG rfl (fun _ _ _ h => h)
          · have bN := Hb0.out.below hG.below Hb0.out.lt
            have x0 := bN.cell 0
            have x1 := bN.cell 1
            have x2 := bN.cell 2
            have x3 := bN.cell 3
            have x4 := bN.cell 4
            simp at x0 x1 x2 x3 x4
            go_simp
            exact hK _ W hG (by show _ = n.val; rw [Hval.out]) (fun _ _ _ h => h)
          · go_simp
            exact hK _ W hG rfl (fun _ _ _ h => h)
          · go_simp
            exact hK _ W hG rfl (fun _ _ _ h => h)
          · go_simp
            exact hK _ W hG rfl (fun _ _ _ h => h)
          · go_simp
            exact hK _ W hG rfl (fun _ _ _ h => h)
          · have e4 : t 4 = x.val := hp 4 (by decide)
            have e5 : t 5 = .int .i64 j := hp 5 (by decide)
            rw [Mat.val] at e4
            simp only [e4, e5] at hK ⊢
            go_simp
            go_at_call 78
            refine (HCol.out j hjl W (B0.out.trans (hG.below.mono B0.out.size))).mono ?_
            rintro e W' ⟨g, c, rfl, hb, hgl, hI⟩
            go_simp
            exact hK _ W' (hG.keep hb) ⟨g, c, rfl, hgl, hI⟩ (fun k u _ => RndE.keep hb k u)
          · have e1 : t 1 = n.val := hp 1 (by decide)
            have e2 : t 2 = .int .i64 i := hp 2 (by decide)
            have e3 : t 3 = .int .i64 j := hp 3 (by decide)
            obtain ⟨g, c, e6, hgl, hI⟩ := hp 6 (by decide)
            rw [Hval.out] at e1
            simp only [e1, e2, e3, e6] at hK ⊢
            go_simp
            go_at_call 77
            refine (HRt.out i j g c hjl W (B0.out.trans (hG.below.mono B0.out.size)) hgl hI).mono ?_
            rintro e W' ⟨rfl, hb⟩
            go_simp
            exact hK _ W' (hG.keep hb) rfl (fun k u _ => RndE.keep hb k u)
          · have e7 : t 7 = .int .i64 (n.net.round x.t.Z i j) := hp 7 (by decide)
            have hb : Below W.heap.size W (W.alloc (.cells #[.int .i64 (n.net.round x.t.Z i j)] 3)) := (Below.refl _ W).alloc (Nat.le_refl _) _
            simp only [e7] at hK ⊢
            go_simp
            exact hK _ _ (hG.keep hb) ⟨W.heap.size, rfl, Blk.new W _ _⟩ (fun k u _ => RndE.keep hb k u)
        · have hjn : j = N := by omega
          have hji : (N : Int) ≤ (j : Int) := by omega
          subst hjn
          clear hVr Vr
          obtain ⟨gn, cn, rfl, _, hgl⟩ := HJ.out.row.form (by omega)
          obtain ⟨g, c, k1, k2, k3, k4⟩ := HJ.out.tab
          have hHi := HJ.out.hi
          have hlo := HJ.out.lo
          have HRow := hide HJ.out.row
          have HBl := hide HJ.out.below
          have hsz := HJ.out.below.size
          have Hk1 := hide k1
          have Hk3 := hide k3
          clear HJ k1 k3
          go_wp2_with (at_builtin; refine wpList_append_lies _ rfl _ _ _ rfl W0.heap.size 32 i2 _ 1 24 Try.underlying22 hi2 hx0 hx1 hx2 rfl (by decide) _ i _ rfl (Hk1.out.alloc _) ⟨wr.heap.size, 0, none⟩ 1 1 [.slice (some ⟨gn, 0, none⟩) j cn] rfl rfl ?c1 ?c2 (by decide) ?c3 ?c4 ?c5 _ rfl ?_)
          all_goals try (case c1 => exact World.news_of_block (Blk.new' (by simp)))
          all_goals try (case c2 => simp [Value.oneCell'])
          all_goals try (case c3 => unfold maxLen; omega)
          all_goals try (case c4 => omega)
          all_goals try (case c5 => simp; omega)
          intro g' cap' w2 hown2 hgrow hat2 hlt2
          have hnew := OwnTab.push (Hk1.out.alloc (.cells #[.slice (some ⟨gn, 0, none⟩) j cn] 32)) k2 (fun r hr => ⟨(Hk3.out r hr).1.alloc _, (Hk3.out r hr).2⟩) k4 hlo (HRow.out.alloc _) hown2 hgrow (by simpa using hat2)
          have HT2 := hide hnew
          have HB2 := hide ((HBl.out.alloc HBl.out.size _).trans (grown_below hgrow (fun q hq => (Hk1.out.lt q hq).1) (by simp; omega)))
          clear hown2 hgrow hat2 hlt2 hnew Hk1 Hk3 k2 k4 HRow HBl
          go_wp2
          go_roundw
          case rel =>
            first
            | exact ⟨i + 1, by omega, by go_num, HT2, HB2⟩
            | ((repeat apply Exists.intro); refine ⟨?_, rfl⟩; exact ⟨i + 1, by omega, by go_num, HT2, HB2⟩)
          case measure => simp [intOf]; omega
    · have hin : i = N := by omega
      subst hin
      have hii : (i : Int) ≤ (i : Int) := Int.le_refl _
      obtain ⟨m, e1, e2, e3, e4⟩ := HT.out.mat (by omega) (by omega)
      have He := hide e1
      have HF : Hid (Fresh n.net.N w.heap.size (n.net.round x.t.Z) m wr) := hide ⟨by rw [HNN.out]; exact e2, e3, e4.mono (by have := B0.out.size; omega)⟩
      have HBw := hide (B0.out.trans (HB.out.mono B0.out.size))
      clear e1 e2 e3 e4 HT
      go_wp2
      go_ret
      exact ⟨⟨m, congrArg Ending.returned He.out, HF.out⟩, HBw.out⟩

end Go.Proofs.Ytjhkadffaephmaa
