/-
  Our own texts, bundled: a claim holds few files.
-/
import Derived.Test.YtjhkadffaephmabGreatCutEngineStepsCB
import Derived.Test.YtjhkadffaephmabGreatCutEngineStepsBC
import Derived.Test.YtjhkadffaephmabGreatCutEngineStepsAI
import Derived.Test.YtjhkadffaephmabGreatCutEngineStepsBB
import Derived.Test.YtjhkadffaephmabGreatCutEngineStepsAG
import Derived.Test.YtjhkadffaephmabGreatCutEngineStepsCD
import Derived.Test.YtjhkadffaephmabGreatCutEngineStepsAF
/-
  signpostref.looked.
-/
namespace Go.Proofs.YtjhkadffaephmabGreat
set_option maxRecDepth 100000
open Go.RowKit

/-- The first so many routes are looked up. -/
def Eng.lookTo (n : Net) (e : Eng) (i j : Nat) : Eng := { e with R := fun r c => if r = i ∧ c < j then n.route i c (fun k => e.has n i k c) else e.R r c }
theorem Eng.lookTo_zero (n : Net) (e : Eng) (i : Nat) : e.lookTo n i 0 = e := by
  unfold Eng.lookTo
  have : (fun r c => if r = i ∧ c < 0 then n.route i c (fun k => e.has n i k c) else e.R r c) = e.R := by funext r c; rw [if_neg (by omega)]
  rw [this]
theorem Eng.lookTo_succ (n : Net) (e : Eng) (i j : Nat) : { e.lookTo n i j with R := fun r c => if r = i ∧ c = j then n.route i j (fun k => e.has n i k j) else (e.lookTo n i j).R r c } = e.lookTo n i (j + 1) := by
  have hf : (fun r c => if r = i ∧ c = j then n.route i j (fun k => e.has n i k j) else (e.lookTo n i j).R r c) = (e.lookTo n i (j + 1)).R := by
    funext r c
    show (if r = i ∧ c = j then n.route i j (fun k => e.has n i k j) else (if r = i ∧ c < j then n.route i c (fun k => e.has n i k c) else e.R r c)) = (if r = i ∧ c < j + 1 then n.route i c (fun k => e.has n i k c) else e.R r c)
    by_cases h1 : r = i ∧ c = j
    · obtain ⟨rfl, rfl⟩ := h1
      rw [if_pos ⟨rfl, rfl⟩, if_pos ⟨rfl, by omega⟩]
    · rw [if_neg h1]
      by_cases h2 : r = i ∧ c < j
      · rw [if_pos h2, if_pos ⟨h2.1, by omega⟩]
      · rw [if_neg h2, if_neg (by omega)]
  show Eng.mk (fun r c => if r = i ∧ c = j then n.route i j (fun k => e.has n i k j) else (e.lookTo n i j).R r c) e.told e.D e.bag = e.lookTo n i (j + 1)
  rw [hf]
  rfl

/-- While a router looks. -/
structure LkI (w : World) (n : NetM) (x : EngM) (N i P : Nat) (Bv : Value) (y : Lay) (j : Nat) (W : World) : Prop where
  below : Below w.heap.size w W
  nb : Blk W w.heap.size n.cells 27
  eb : Blk W (w.heap.size + 1) x.cells 31
  rs : Blk W (w.heap.size + 2) #[.slice none 0 0, .slice none 0 0] 31
  live : LiveR (w.heap.size + 3) P N (x.eng.lookTo n.net i j) Bv y W
theorem LkI.keep {w : World} {n : NetM} {x : EngM} {N i P : Nat} {Bv : Value} {y : Lay} {j : Nat} {W W' : World} (h : LkI w n x N i P Bv y j W) (hb : Below W.heap.size W W') : LkI w n x N i P Bv y j W' :=
  ⟨h.below.trans (hb.mono h.below.size), h.nb.below hb h.nb.lt, h.eb.below hb h.eb.lt, h.rs.below hb h.rs.lt, h.live.below hb⟩
theorem LkI.next {w : World} {n : NetM} {x : EngM} {N i P : Nat} {Bv : Value} {y : Lay} {j : Nat} {W : World} (h : LkI w n x N i P Bv y j W) (hi : i < N) (hj : j < N) : LkI w n x N i P Bv y (j + 1) (W.setCell ⟨y.rb i, j, none⟩ (.int .i64 (n.net.route i j (fun k => x.eng.has n.net i k j)))) := by
  have hl := h.live.lr i hi
  have hs := h.live.setRoute hi hj (n.net.route i j (fun k => x.eng.has n.net i k j))
  rw [Eng.lookTo_succ] at hs
  exact ⟨h.below.setCell (p := ⟨y.rb i, j, none⟩) (by show w.heap.size ≤ y.rb i; omega) _, h.nb.other (by omega) _ _, h.eb.other (by omega) _ _, h.rs.other (by omega) _ _, hs⟩

structure LkG (w : World) (n : NetM) (x : EngM) (N i P : Nat) (Bv : Value) (y : Lay) (j : Nat) (ha : Nat) (W : World) : Prop where
  inv : LkI w n x N i P Bv y j W
  row : Ints (some ⟨ha, 0, none⟩) N ha 0 (fun k => x.eng.has n.net i k j) W
  lt : ha < W.heap.size
theorem LkG.keep {w : World} {n : NetM} {x : EngM} {N i P : Nat} {Bv : Value} {y : Lay} {j ha : Nat} {W W' : World} (h : LkG w n x N i P Bv y j ha W) (hb : Below W.heap.size W W') : LkG w n x N i P Bv y j ha W' :=
  ⟨h.inv.keep hb, h.row.below hb (fun _ => h.lt), Nat.lt_of_lt_of_le h.lt hb.size⟩

set_option maxHeartbeats 8000000 in
theorem refLooked_any (n : NetM) (x : EngM) (N i : Nat) (w : World) (h : n.In w.heap.size w) (hx : x.In w.heap.size w) (hN : n.nodes = N) (hR : x.Right n.net N) (hi : i < N) :
    Calls Tryz.prog 31 #[n.val, x.val, .int .i64 i] w fun r w' => (∃ P Bv y, LiveR w.heap.size P N (x.eng.look n.net i) Bv y w' ∧ r = .returned (.agg #[.slice (some ⟨y.G, 0, none⟩) N y.gc, Bv])) ∧ Below w.heap.size w w' := by
  obtain ⟨hN0, hN6, hNN, hnn⟩ := nodes_six hR.check hN
  have g := Net.good_of_check hR.check
  have hs0 : 2 ≤ n.a.size := g.law.good.lo
  have hs1 : n.a.size ≤ 24 := g.law.good.hi
  obtain ⟨i1, hi1, hy0, hy1, hy2⟩ := info_parts Tryz.infoInt
  have hnc : n.cells = #[.int .i64 n.a.size, .slice n.a.B.ga n.a.B.t.len n.a.B.cap, .slice n.a.E.ga n.a.E.t.len n.a.E.cap, .int .i64 N, .slice n.la n.ln n.lc] := by simp only [NetM.cells, Mat.val, hN]
  have hxc : x.cells = #[.slice x.rs.ga N x.rs.gc, .slice x.bag.ba x.bag.bn x.bag.bc] := by rw [← hR.gn]; rfl
  obtain ⟨W0, hW0⟩ : ∃ W0, W0 = ((w.alloc (.cells n.cells 27)).alloc (.cells x.cells 31)).alloc (.cells #[.slice none 0 0, .slice none 0 0] 31) := ⟨_, rfl⟩
  have hB0 : Below w.heap.size w W0 := by rw [hW0]; exact (((Below.refl _ w).alloc (Nat.le_refl _) _).alloc (by simp) _).alloc (by simp; omega) _
  have hsz0 : W0.heap.size = w.heap.size + 3 := by rw [hW0]; simp
  have b3 : Blk W0 w.heap.size n.cells 27 := by rw [hW0]; exact ((Blk.new w _ _).alloc _).alloc _
  have b4 : Blk W0 (w.heap.size + 1) x.cells 31 := by rw [hW0]; exact (show Blk _ (w.heap.size + 1) _ _ from Blk.new' (by simp)).alloc _
  have b6 : Blk W0 (w.heap.size + 2) #[.slice none 0 0, .slice none 0 0] 31 := by rw [hW0]; exact Blk.new' (by simp)
  have HCp := hide (refCopied_any x N W0 (hx.grown hB0) hR.gn hN0 hN6 hR.bn hR.rl hR.tl hR.ll)
  have HRt := hide (fun (j : Nat) (W : World) (hb : Below w.heap.size w W) ga cap b o hf hbl hr => routeOf_any n i j ga cap b o (fun k => x.eng.has n.net i k j) W (h.grown hb) hR.check hf hbl hr)
  rw [hNN] at HRt
  have HRo : Hid (∀ j, j < N → n.net.Routes (fun k => x.eng.has n.net i k j)) := hide (fun j hj => hR.fit.has g (by omega) (by omega))
  have HR := hide hR
  have Hx := hide hx
  have HB0 := hide hB0
  have Hb3 := hide b3
  have Hb4 := hide b4
  have Hb6 := hide b6
  have Hnc := hide hnc
  have Hxc := hide hxc
  have Hsz0 := hide hsz0
  have z0 := b4.cell 0
  have z1 := b4.cell 1
  rw [hxc] at z0 z1
  simp at z0 z1
  rw [hnc, hxc] at hW0
  simp only [NetM.val, EngM.val, hnc, hxc] at HCp HRt ⊢
  have HW0 := hide hW0
  have Hga : Hid (x.rs.ga = some ⟨x.rs.gb, x.rs.go, none⟩) := hide (hx.rs.ga (by rw [hR.gn]; exact hN0))
  clear h hx hR hB0 b3 b4 b6 hnc hxc hsz0 hW0 hN hNN hnn g
  rw [HW0.out] at HCp z0 z1
  go_enter Tryz.func31, Tryz.ntmps31
  go_wp2_with fail
  go_at_call 35
  refine HCp.out.mono ?_
  rw [← HW0.out]
  rintro r W1 ⟨⟨P0, Bv, y, hL1, rfl⟩, hb1⟩
  obtain ⟨ba, bc, hBv⟩ := own_form hL1.live.bag
  obtain ⟨P, hP⟩ : ∃ P, P = W1.heap.size := ⟨_, rfl⟩
  obtain ⟨W2, hW2⟩ : ∃ W2, W2 = W1.alloc (.cells #[.slice (some ⟨y.G, 0, none⟩) N y.gc, Bv] 31) := ⟨_, rfl⟩
  have hb2 : Below W1.heap.size W1 W2 := by rw [hW2]; exact (Below.refl _ W1).alloc (Nat.le_refl _) _
  have hb12 := hb1.trans (hb2.mono hb1.size)
  have hL2 := hL1.rebox
  rw [← hW2, ← hP, Hsz0.out] at hL2
  have HI0 : Hid (LkI w n x N i P Bv y 0 W2) := hide ⟨HB0.out.trans (hb12.mono HB0.out.size), Hb3.out.below hb12 Hb3.out.lt, Hb4.out.below hb12 Hb4.out.lt, Hb6.out.below hb12 Hb6.out.lt, by rw [Eng.lookTo_zero]; exact hL2⟩
  rw [hBv] at hW2
  rw [hBv]
  have HW2 := hide hW2
  have HP := hide hP
  have HBv := hide hBv
  clear hL1 hb1 hb2 hb12 hL2 hW2 hP hBv HCp z0 z1 Hb3 Hb4 Hb6 HB0
  go_wp2_with fail
  rw [← HW2.out, ← HP.out]
  go_loopw [8, 9, 10] (fun q _ _ wr => ∃ j : Nat, j ≤ N ∧ q = .int .i64 j ∧ Hid (LkI w n x N i P Bv y j wr)) (fun q _ _ _ => N - (intOf q).toNat)
  case atStart => exact ⟨0, Nat.zero_le _, rfl, HI0⟩
  case round =>
    clear HI0
    obtain ⟨j, hj, rfl, HI⟩ := hrel
    have x3 := HI.out.nb.cell 3
    simp [Hnc.out] at x3
    by_cases hjl : j < N
    · have hji : (j : Int) < (N : Int) := by omega
      obtain ⟨Wj, hWj⟩ : ∃ Wj, Wj = wr := ⟨wr, rfl⟩
      have HIj : Hid (LkI w n x N i P Bv y j Wj) := by rw [hWj]; exact HI
      go_wp2_with fail
      rw [← hWj]
      clear hWj HI x3
      go_loopw [9, 10] (fun s q wr => ∃ k : Nat, k ≤ N ∧ q = .int .i64 k ∧ Hid (Below Wj.heap.size Wj wr) ∧ Hid (wr.ownsRow Wj.heap.size 3 1 s k (intsL (fun k => x.eng.has n.net i k j) k))) (fun _ q _ => N - (intOf q).toNat)
      case atStart => exact ⟨0, Nat.zero_le _, rfl, hide (Below.refl _ _), hide (World.ownsRow_nil _ _ _ _)⟩
      case round =>
        obtain ⟨k, hk, rfl, HBk, HOk⟩ := hrel
        have hIk := HIj.out.keep HBk.out
        have x3 := hIk.nb.cell 3
        simp [Hnc.out] at x3
        by_cases hkl : k < N
        · have hki : (k : Int) < (N : Int) := by omega
          have hii : (i : Int) < (N : Int) := by omega
          have hxI := Hx.out.below hIk.below (Nat.le_refl _)
          have hig : i < x.rs.gn := by rw [HR.out.gn]; exact hi
          have e0 := hIk.eb.cell 0
          simp [Hxc.out] at e0
          rw [Hga.out] at e0
          have c1 := hxI.rs.c1 i hig
          have htl := HR.out.tl i hi
          rw [htl] at c1
          have hTga := (hxI.rs.r i hig).T.ga (by rw [htl]; exact hN0)
          rw [hTga] at c1
          have hrow := (hxI.rs.r i hig).T.row k (by rw [htl]; exact hkl)
          have hLk := HR.out.ll i hi k hkl
          have x0 := hIk.nb.cell 0
          simp [Hnc.out] at x0
          have Hhas : Hid (x.eng.has n.net i k j = if x.eng.told i k = true then x.eng.D i k j else n.a.size - 1) := hide rfl
          by_cases ht : x.eng.told i k = true
          · rw [if_pos ht] at hLk Hhas
            rw [hLk] at hrow
            obtain ⟨ha1, ha2⟩ := (hxI.rs.r i hig).T.addr k (by rw [htl]; exact hkl) (by rw [hLk]; exact hN0)
            rw [ha1] at hrow
            have hcell := (hxI.rs.r i hig).T.cell k (by rw [htl]; exact hkl) j (by rw [hLk]; exact hjl)
            have hz : (x.rs.r i).T.t.Z k j = x.eng.D i k j := rfl
            rw [hz] at hcell
            have hn0 : ((N : Int) == 0) = false := by simp; omega
            obtain ⟨dv, hdv⟩ : ∃ dv, dv = x.eng.D i k j := ⟨_, rfl⟩
            rw [← hdv] at hcell Hhas
            have Hha1 := hide ha1
            have HTga := hide hTga
            have HIk := hide hIk
            clear hIk hxI hLk ht ha1 ha2 hz hdv hTga htl
            go_wp2_with (at_builtin; refine wpList_append_lies _ rfl _ _ _ rfl Wj.heap.size 3 i1 _ 1 8 Tryz.underlying32 hi1 hy0 hy1 hy2 rfl (by decide) _ k _ rfl (HOk.out.alloc _) ⟨wr.heap.size, 0, none⟩ 1 1 [.int .i64 dv] rfl rfl ?c1 ?c2 (by decide) ?c3 ?c4 ?c5 _ rfl ?_)
            all_goals try (case c1 => exact World.news_of_block (Blk.new' (by simp)))
            all_goals try (case c2 => simp [Value.oneCell'])
            all_goals try (case c3 => unfold maxLen; omega)
            all_goals try (case c4 => omega)
            all_goals try (case c5 => have := HBk.out.size; simp; omega)
            intro g' cap' w4 hown2 hgrow hat2 hlt2
            have HB4 := hide ((HBk.out.alloc HBk.out.size (.cells #[.int .i64 dv] 3)).trans (grown_below hgrow (fun g hg => (HOk.out.lt g hg).1) (by have := HBk.out.size; simp; omega)))
            have HO4 : Hid (w4.ownsRow Wj.heap.size 3 1 (.slice (some ⟨g', 0, none⟩) (k + 1) cap') (k + 1) (intsL (fun k => x.eng.has n.net i k j) (k + 1))) := hide (by rw [intsL_succ, Hhas.out]; exact hown2)
            clear hown2 hgrow hat2 hlt2 HOk HBk HIk
            go_wp2
            go_roundw
            case rel =>
              first
              | exact ⟨k + 1, by omega, by go_num, HB4, HO4⟩
              | ((try rw [← Hha1.out]); (try rw [← HTga.out]); (try rw [← Hga.out]); (repeat apply Exists.intro); refine ⟨?_, rfl⟩; exact ⟨k + 1, by omega, by go_num, HB4, HO4⟩)
            case measure => simp [intOf]; omega
          · rw [if_neg ht] at hLk Hhas
            rw [hLk] at hrow
            have HTga := hide hTga
            clear hIk hxI hLk ht hTga htl
            go_wp2_with (at_builtin; refine wpList_append_lies _ rfl _ _ _ rfl Wj.heap.size 3 i1 _ 1 8 Tryz.underlying32 hi1 hy0 hy1 hy2 rfl (by decide) _ k _ rfl (HOk.out.alloc _) ⟨wr.heap.size, 0, none⟩ 1 1 [.int .i64 (n.a.size - 1)] rfl rfl ?c1 ?c2 (by decide) ?c3 ?c4 ?c5 _ rfl ?_)
            all_goals try (case c1 => exact World.news_of_block (Blk.new' (by simp)))
            all_goals try (case c2 => simp [Value.oneCell'])
            all_goals try (case c3 => unfold maxLen; omega)
            all_goals try (case c4 => omega)
            all_goals try (case c5 => have := HBk.out.size; simp; omega)
            intro g' cap' w4 hown2 hgrow hat2 hlt2
            have HB4 := hide ((HBk.out.alloc HBk.out.size (.cells #[.int .i64 (n.a.size - 1)] 3)).trans (grown_below hgrow (fun g hg => (HOk.out.lt g hg).1) (by have := HBk.out.size; simp; omega)))
            have HO4 : Hid (w4.ownsRow Wj.heap.size 3 1 (.slice (some ⟨g', 0, none⟩) (k + 1) cap') (k + 1) (intsL (fun k => x.eng.has n.net i k j) (k + 1))) := hide (by rw [intsL_succ, Hhas.out]; exact hown2)
            clear hown2 hgrow hat2 hlt2 HOk HBk
            go_wp2
            go_roundw
            case rel =>
              first
              | exact ⟨k + 1, by omega, by go_num, HB4, HO4⟩
              | ((try rw [← HTga.out]); (try rw [← Hga.out]); (repeat apply Exists.intro); refine ⟨?_, rfl⟩; exact ⟨k + 1, by omega, by go_num, HB4, HO4⟩)
            case measure => simp [intOf]; omega
        · have hkn : k = N := by omega
          subst hkn
          have hki : (k : Int) ≤ (k : Int) := Int.le_refl _
          obtain ⟨ha, hc, rfl, hrl, hrg⟩ := HOk.out.form hN0
          have HG0 : Hid (LkG w n x k i P Bv y j ha wr) := hide ⟨hIk, ⟨fun _ => rfl, fun q hq => by have := HOk.out.cellAt q (by omega); rw [intsL_get hq] at this; rw [Nat.zero_add]; exact this, by unfold maxLen; omega⟩, hrg⟩
          have HCr := hide (fun (W : World) (hG : LkG w n x k i P Bv y j ha W) => HRt.out j W hG.inv.below (some ⟨ha, 0, none⟩) hc ha 0 hG.row hG.lt (HRo.out j hjl))
          obtain ⟨rv, hrv⟩ : ∃ rv, rv = n.net.route i j (fun q => x.eng.has n.net i q j) := ⟨_, rfl⟩
          rw [← hrv] at HCr
          have Hrv := hide hrv
          have Hii : Hid (i < k) := hide hi
          clear hIk HOk HBk HIj hrl hrg hrv
          go_wp2_with fail
          clear x3
          refine wp_region_last 13 _ (LkG w n x k i P Bv y j ha) (valsE [.pointer (some ⟨P, 0, none⟩), .slice (some ⟨y.G, 0, none⟩) k y.gc, .int .i64 i, .pointer (some ⟨y.G, i * 2, none⟩), .pointer (some ⟨y.G, i * 2, none⟩), .slice (some ⟨y.rb i, 0, none⟩) k (y.rc i), .int .i64 j, .agg #[.int .i64 n.a.size, .slice n.a.B.ga n.a.B.t.len n.a.B.cap, .slice n.a.E.ga n.a.E.t.len n.a.E.cap, .int .i64 k, .slice n.la n.ln n.lc], .int .i64 i, .int .i64 j, .slice (some ⟨ha, 0, none⟩) k hc, .int .i64 rv, .pointer (some ⟨y.rb i, j, none⟩)]) (fun _ W => LkI w n x k i P Bv y (j + 1) W) (fun _ _ _ => True) (by kernel_rfl) (by kernel_rfl) (by kernel_rfl) (by kernel_rfl) (by kernel_rfl) rfl (HG0.out.keep ⟨rfl, rfl, rfl, Nat.le_refl _, fun _ _ => rfl⟩) ⟨?_, ?_, ?_, ?_, ?_, ?_, ?_, ?_, ?_, ?_, ?_, ?_, ?_, trivial⟩ ?_ trivial ?_
          rotate_right
          · intro t W hG _
            simp only [fill, Act.put, List.setIfInBounds_toArray, List.set_cons_zero, List.set_cons_succ]
            have HN := hide hG
            clear hG HG0 HCr
            go_wp2
            go_roundw
            case rel =>
              first
              | exact ⟨j + 1, by omega, by go_num, HN⟩
              | ((try rw [← Hga.out]); (repeat apply Exists.intro); refine ⟨?_, rfl⟩; exact ⟨j + 1, by omega, by go_num, HN⟩)
            case measure => simp [intOf]; omega
          rotate_right
          · intro t W hG hE _ K hK
            have e11 := valsE_get (hE 11 (by omega)) rfl
            have e12 := valsE_get (hE 12 (by omega)) rfl
            simp only [fill, Act.put, List.setIfInBounds_toArray, List.set_cons_zero, List.set_cons_succ, e11, e12] at hK ⊢
            rw [if_pos (by rfl)]
            have hnx := hG.inv.next Hii.out hjl
            rw [← Hrv.out] at hnx
            obtain ⟨cs, hcb⟩ := hG.inv.live.blk i Hii.out
            have cc := (hG.inv.live.live.routes i Hii.out).2 j hjl
            have fc := hcb.frozen j
            have HNX := hide hnx
            clear hnx hcb hE
            go_simp
            exact hK undef _ HNX.out
          all_goals intro t W hG hp ht K hK
          all_goals clear ht
          all_goals simp only [fill, Act.put, List.setIfInBounds_toArray, List.set_cons_zero, List.set_cons_succ] at hK ⊢
          · rw [if_pos (by rfl)]
            go_simp
            exact hK _ _ hG rfl (fun _ _ _ h => h)
          · have e0 := valsE_get (hp 0 (by decide)) rfl
            have cq := hG.inv.live.live.head.cell 0
            simp at cq
            simp only [e0] at hK ⊢
            rw [if_pos (by rfl)]
            go_simp
            exact hK _ _ hG rfl (fun _ _ _ h => h)
          · rw [if_pos (by rfl)]
            go_simp
            exact hK _ _ hG rfl (fun _ _ _ h => h)
          · have e1 := valsE_get (hp 1 (by decide)) rfl
            have e2 := valsE_get (hp 2 (by decide)) rfl
            have hii' : (i : Int) < (k : Int) := by have := Hii.out; omega
            simp only [e1, e2] at hK ⊢
            rw [if_pos (by rfl)]
            go_simp
            exact hK _ _ hG rfl (fun _ _ _ h => h)
          · have e3 := valsE_get (hp 3 (by decide)) rfl
            simp only [e3] at hK ⊢
            rw [if_pos (by rfl)]
            go_simp
            exact hK _ _ hG rfl (fun _ _ _ h => h)
          · have e4 := valsE_get (hp 4 (by decide)) rfl
            have cq := hG.inv.live.live.rtrs.cell (i * 2)
            rw [hG.inv.live.live.r0 i Hii.out] at cq
            simp only [e4] at hK ⊢
            rw [if_pos (by rfl)]
            go_simp
            exact hK _ _ hG rfl (fun _ _ _ h => h)
          · rw [if_pos (by rfl)]
            go_simp
            exact hK _ _ hG rfl (fun _ _ _ h => h)
          · have m0 := hG.inv.nb.cell 0
            have m1 := hG.inv.nb.cell 1
            have m2 := hG.inv.nb.cell 2
            have m3 := hG.inv.nb.cell 3
            have m4 := hG.inv.nb.cell 4
            simp [Hnc.out] at m0 m1 m2 m3 m4
            rw [if_pos (by rfl)]
            go_simp
            exact hK _ _ hG rfl (fun _ _ _ h => h)
          · rw [if_pos (by rfl)]
            go_simp
            exact hK _ _ hG rfl (fun _ _ _ h => h)
          · rw [if_pos (by rfl)]
            go_simp
            exact hK _ _ hG rfl (fun _ _ _ h => h)
          · rw [if_pos (by rfl)]
            go_simp
            exact hK _ _ hG rfl (fun _ _ _ h => h)
          · have e7 := valsE_get (hp 7 (by decide)) rfl
            have e8 := valsE_get (hp 8 (by decide)) rfl
            have e9 := valsE_get (hp 9 (by decide)) rfl
            have e10 := valsE_get (hp 10 (by decide)) rfl
            simp only [e7, e8, e9, e10] at hK ⊢
            rw [if_pos (by rfl)]
            have HC := hide (HCr.out W hG)
            go_simp
            go_at_call 65
            refine HC.out.mono ?_
            rintro r W1 ⟨rfl, hb1⟩
            go_simp
            exact hK _ _ (hG.keep hb1) rfl (fun _ _ _ h => h)
          · have e5 := valsE_get (hp 5 (by decide)) rfl
            have e6 := valsE_get (hp 6 (by decide)) rfl
            simp only [e5, e6] at hK ⊢
            rw [if_pos (by rfl)]
            go_simp
            exact hK _ _ hG rfl (fun _ _ _ h => h)
    · have hjn : j = N := by omega
      subst hjn
      have hji : (j : Int) ≤ (j : Int) := Int.le_refl _
      have hl := HI.out.live.congr (e' := x.eng.look n.net i) (fun r c hr hc => by
        show (if r = i ∧ c < j then n.net.route i c (fun k => x.eng.has n.net i k c) else x.eng.R r c) = (if r = i then n.net.route i c (fun k => x.eng.has n.net i k c) else x.eng.R r c)
        by_cases e1 : r = i
        · rw [if_pos ⟨e1, hc⟩, if_pos e1]
        · rw [if_neg (fun hh => e1 hh.1), if_neg e1]) (fun _ _ _ _ => rfl) (fun _ _ _ _ _ _ _ => rfl) rfl
      have c6 := HI.out.rs
      have p0 := HI.out.live.live.head.cell 0
      have p1 := HI.out.live.live.head.cell 1
      have s0 := c6.cell 0
      have s1 := c6.cell 1
      have f0 := c6.frozen 0
      have f1 := c6.frozen 1
      have c7 := (c6.set 0 (.slice (some ⟨y.G, 0, none⟩) j y.gc)).set 1 Bv
      have e0 := c7.cell 0
      have e1 := c7.cell 1
      simp at p0 p1 s0 s1 e0 e1
      have hl9 := (hl.setRes hN0 (by omega) c6 (.slice (some ⟨y.G, 0, none⟩) j y.gc) Bv).mono (lo := w.heap.size) (by omega)
      have HF : Hid ((∃ P Bw z, LiveR w.heap.size P j (x.eng.look n.net i) Bw z ((wr.setCell ⟨w.heap.size + 2, 0, none⟩ (.slice (some ⟨y.G, 0, none⟩) j y.gc)).setCell ⟨w.heap.size + 2, 1, none⟩ Bv) ∧ Ending.returned (.agg #[.slice (some ⟨y.G, 0, none⟩) j y.gc, Bv]) = .returned (.agg #[.slice (some ⟨z.G, 0, none⟩) j z.gc, Bw])) ∧ Below w.heap.size w ((wr.setCell ⟨w.heap.size + 2, 0, none⟩ (.slice (some ⟨y.G, 0, none⟩) j y.gc)).setCell ⟨w.heap.size + 2, 1, none⟩ Bv)) := hide ⟨⟨_, _, _, hl9, rfl⟩, (HI.out.below.setCell (p := ⟨w.heap.size + 2, 0, none⟩) (by show w.heap.size ≤ w.heap.size + 2; omega) _).setCell (p := ⟨w.heap.size + 2, 1, none⟩) (by show w.heap.size ≤ w.heap.size + 2; omega) _⟩
      rw [HBv.out] at p1 e0 e1 HF
      generalize x.eng.bag.length = bl at *
      clear hl hl9 c6 c7 HI
      go_wp2
      exact bodyPost_ret (v := .agg #[.slice (some ⟨y.G, 0, none⟩) j y.gc, .slice ba bl bc]) (by simp [results, Tryz.results31, go_sem, e0, e1]) rfl HF.out

end Go.Proofs.YtjhkadffaephmabGreat

/-
  signpostref.rowOf.
-/
namespace Go.Proofs.YtjhkadffaephmabGreat
set_option maxRecDepth 100000
open Go.RowKit

theorem Net.row_of {n : Net} {l : Nat} {f : Nat → Int} (h : (l : Int) = n.nodes) : n.row l f = if rowIn l f n.a.size = false then 5 else 0 := by
  unfold Net.row rowIn
  rw [if_neg (by omega)]

set_option maxHeartbeats 4000000 in
theorem rowOf_any (n : NetM) (a : Option Addr) (l c b o : Nat) (f : Nat → Int) (w : World) (hi : Ints a l b o f w) (hb : 0 < l → b < w.heap.size) (h2 : 2 ≤ n.a.size) (h24 : n.a.size ≤ 24) :
    Calls Tryz.prog 26 #[n.val, .slice a l c] w fun e w' => e = .returned (.int .i64 (n.net.row l f)) ∧ Below w.heap.size w w' := by
  have hlen := hi.len
  unfold maxLen at hlen
  have hB0 : Below w.heap.size w (w.alloc (.cells n.cells 27)) := (Below.refl _ w).alloc (Nat.le_refl _) _
  have b0 := Blk.new w n.cells 27
  have HX := hide (hi.below hB0 hb)
  have HB0 := hide hB0
  have Hd1 : Hid ((l : Int) ≠ n.nodes → n.net.row l f = 1) := hide (fun h => by unfold Net.row; rw [if_pos (show (l : Int) ≠ n.net.nodes from h)])
  have Hd2 : Hid ((l : Int) = n.nodes → n.net.row l f = if rowIn l f n.a.size = false then 5 else 0) := hide (fun h => Net.row_of h)
  clear hi hB0 hb
  simp only [NetM.val, NetM.cells, Mat.val] at *
  by_cases hl : (l : Int) = n.nodes
  rotate_left
  · have hl' : ((l : Int) != n.nodes) = true := by simp [hl]
    have hfin := hide (Hd1.out hl)
    clear hl Hd1 Hd2
    go_enter Tryz.func26, Tryz.ntmps26
    go_wp2
    go_ret
    exact ⟨by rw [hfin.out]; rfl, HB0.out⟩
  have hl' : ((l : Int) != n.nodes) = false := by simp [hl]
  have Hd3 := hide (Hd2.out hl)
  clear hl Hd1 Hd2
  obtain ⟨W0, hW0⟩ : ∃ W0, W0 = w.alloc (.cells #[.int .i64 n.a.size, .slice n.a.B.ga n.a.B.t.len n.a.B.cap, .slice n.a.E.ga n.a.E.t.len n.a.E.cap, .int .i64 n.nodes, .slice n.la n.ln n.lc] 27) := ⟨_, rfl⟩
  have x0 : W0.cell? ⟨w.heap.size, 0, none⟩ = some (.int .i64 n.a.size) := by rw [hW0]; exact b0.cell 0
  rw [← hW0] at HX HB0
  clear b0
  go_enter Tryz.func26, Tryz.ntmps26
  go_wp2_with fail
  rw [← hW0]
  clear hW0
  go_loopw [5] (fun q wr => ∃ k : Nat, k ≤ l ∧ q = .int .i64 k ∧ Hid (∀ r, r < k → 0 ≤ f r ∧ f r < n.a.size) ∧ Hid (∃ z, wr = W0.drewN z)) (fun q _ => l - (intOf q).toNat)
  case atStart => exact ⟨0, Nat.zero_le _, rfl, hide fun r hr => absurd hr (Nat.not_lt_zero _), hide ⟨0, rfl⟩⟩
  case round =>
    obtain ⟨k, hk, rfl, Hall, HD⟩ := hrel
    by_cases hlt : k < l
    · have hki : (k : Int) < (l : Int) := by omega
      have ha := HX.out.addr (by omega)
      have z3 : wr.cell? ⟨b, o + k, none⟩ = some (.int .i64 (f k)) := by obtain ⟨z, rfl⟩ := HD.out; exact HX.out.cell k hlt
      have z0 : wr.cell? ⟨w.heap.size, 0, none⟩ = some (.int .i64 n.a.size) := by obtain ⟨z, rfl⟩ := HD.out; exact x0
      have HQ := hide (fun W => between_q (f k) 0 (n.a.size - 1) W)
      by_cases hin : 0 ≤ f k ∧ f k ≤ n.a.size - 1
      · have hb : (decide (0 ≤ f k) && decide (f k ≤ n.a.size - 1)) = true := by simp [hin]
        rw [hb] at HQ
        have Hn : Hid (∀ r, r < k + 1 → 0 ≤ f r ∧ f r < n.a.size) := hide (fun r hr => by
          by_cases e : r = k
          · subst e; omega
          · exact Hall.out r (by omega))
        clear hin hb
        go_wp2_with fail
        go_quiet ((go_at_call 24; exact Calls.quiet_of (HQ.out _)))
        go_wp2
        go_roundw
        case rel =>
          first
          | exact ⟨k + 1, by omega, by go_num, Hn, hide (by obtain ⟨m, rfl⟩ := HD.out; exact ⟨_, by rw [World.drewN_drewN]⟩)⟩
          | ((try rw [← ha]); (repeat apply Exists.intro); refine ⟨?_, rfl⟩; exact ⟨k + 1, by omega, by go_num, Hn, hide (by obtain ⟨m, rfl⟩ := HD.out; exact ⟨_, by rw [World.drewN_drewN]⟩)⟩)
        case measure => simp [intOf]; omega
      · have hb : (decide (0 ≤ f k) && decide (f k ≤ n.a.size - 1)) = false := by simp; omega
        rw [hb] at HQ
        have hro : rowIn l f n.a.size = false := by
          cases hh : rowIn l f n.a.size with
          | false => rfl
          | true => exact absurd (rowIn_iff.1 hh k hlt) (by omega)
        have hfin : Hid (n.net.row l f = 5) := hide (by rw [Hd3.out, if_pos hro])
        clear hin hb hro Hd3
        go_wp2_with fail
        go_quiet ((go_at_call 24; exact Calls.quiet_of (HQ.out _)))
        go_wp2
        go_ret
        exact ⟨by rw [hfin.out]; rfl, by obtain ⟨m, rfl⟩ := HD.out; exact below_drewN (below_drewN HB0.out m) _⟩
    · have hki : (l : Int) ≤ (k : Int) := by omega
      have hro : rowIn l f n.a.size = true := rowIn_iff.2 (fun r hr => Hall.out r (by omega))
      have hfin : Hid (n.net.row l f = 0) := hide (by rw [Hd3.out, hro]; rfl)
      clear hro Hd3
      go_wp2
      go_ret
      exact ⟨by rw [hfin.out]; rfl, by obtain ⟨m, rfl⟩ := HD.out; exact below_drewN HB0.out m⟩

end Go.Proofs.YtjhkadffaephmabGreat

/-
  signpostref.StepOf: what stands all through it, and its end.
-/
namespace Go.Proofs.YtjhkadffaephmabGreat
set_option maxRecDepth 100000
open Go.RowKit

/-- The boxes of StepOf. -/
structure SB (w : World) (n : NetM) (x : EngM) (v : EvM) (W : World) : Prop where
  below : Below w.heap.size w W
  bn : Blk W w.heap.size n.cells 27
  bx : Blk W (w.heap.size + 1) x.cells 31
  bv : Blk W (w.heap.size + 2) v.cells 34
  br : Blk W (w.heap.size + 3) #[.slice none 0 0, .slice none 0 0] 31
theorem SB.keep {w : World} {n : NetM} {x : EngM} {v : EvM} {W W' : World} (h : SB w n x v W) (hb : Below W.heap.size W W') : SB w n x v W' :=
  ⟨h.below.trans (hb.mono h.below.size), h.bn.below hb h.bn.lt, h.bx.below hb h.bx.lt, h.bv.below hb h.bv.lt, h.br.below hb h.br.lt⟩
/-- A store behind the boxes. -/
theorem SB.set {w : World} {n : NetM} {x : EngM} {v : EvM} {W : World} (h : SB w n x v W) {q : Nat} (hq : w.heap.size + 3 < q) (j : Nat) (u : Value) : SB w n x v (W.setCell ⟨q, j, none⟩ u) :=
  ⟨h.below.setCell (p := ⟨q, j, none⟩) (by show w.heap.size ≤ q; omega) _, h.bn.other (by omega) _ _, h.bx.other (by omega) _ _, h.bv.other (by omega) _ _, h.br.other (by omega) _ _⟩
theorem SB.start (w : World) (n : NetM) (x : EngM) (v : EvM) : SB w n x v ((((w.alloc (.cells n.cells 27)).alloc (.cells x.cells 31)).alloc (.cells v.cells 34)).alloc (.cells #[.slice none 0 0, .slice none 0 0] 31)) :=
  ⟨(((((Below.refl _ w).alloc (Nat.le_refl _) _).alloc (by simp) _).alloc (by simp; omega) _).alloc (by simp; omega) _), ((((Blk.new w _ _).alloc _).alloc _).alloc _), ((show Blk _ (w.heap.size + 1) _ _ from Blk.new' (by simp)).alloc _).alloc _, (show Blk _ (w.heap.size + 2) _ _ from Blk.new' (by simp)).alloc _, Blk.new' (by simp)⟩

/-- Two cells that hold slices are set, in a block below all that the engine is. -/
theorem Live.setOld {base P N : Nat} {e : Eng} {Bv : Value} {y : Lay} {W : World} (h : Live base P N e Bv y W) (hN0 : 0 < N) {q : Nat} {t : TypeId} (hq : q < base) {a a' : Option Addr} {l c l' c' : Nat} (hb : Blk W q #[.slice a l c, .slice a' l' c'] t) (u v : Value) :
    Live base P N e Bv y ((W.setCell ⟨q, 0, none⟩ u).setCell ⟨q, 1, none⟩ v) := by
  obtain ⟨W2, hW2⟩ : ∃ W2, W2 = (W.setCell ⟨q, 0, none⟩ u).setCell ⟨q, 1, none⟩ v := ⟨_, rfl⟩
  have hws : W2.heap.size = W.heap.size := by rw [hW2]; simp
  have hno : ∀ b o z, W.cell? ⟨b, o, none⟩ = some (.int .i64 z) → b ≠ q := fun b o z hc e1 => by
    subst e1
    rw [hb.cell o] at hc
    rcases o with _ | _ | o
    · simp at hc
    · simp at hc
    · simp at hc
  have hcell : ∀ b o, b ≠ q → W2.cell? ⟨b, o, none⟩ = W.cell? ⟨b, o, none⟩ := fun b o hne => by rw [hW2, cell_other hne, cell_other hne]
  have hblk : ∀ b cs t, b ≠ q → Blk W b cs t → Blk W2 b cs t := fun b cs t hne hk => by rw [hW2]; exact (hk.other hne _ _).other hne _ _
  have hoff : ∀ b, y.Off P N Bv W b → y.Off P N Bv W2 b := fun b ho => ⟨ho.p, ho.g, ho.t, ho.v, by rw [hws]; exact ho.lt, ho.lo⟩
  have hp := h.lp
  have hg := h.lg
  have hbv : Bv.ownBlock ≠ some q := fun e1 => by have := (h.bag.lt q e1).1; omega
  rw [← hW2]
  refine ⟨hblk _ _ _ (by omega) h.head, hblk _ _ _ (by omega) h.rtrs, h.r0, h.r1, fun i hi => hblk _ _ _ (by have := h.lt i hi; omega) (h.tolds i hi), h.t0, fun i hi => ?_, fun i hi k hk ht => ?_, ?_, h.lp, h.lg, h.lt, h.pg, h.pt, h.gt, h.tt, h.bv, h.ylo⟩
  · obtain ⟨h1, h2⟩ := h.routes i hi
    exact ⟨hoff _ h1, fun j hj => by rw [hcell _ _ (hno _ _ _ (h2 0 hN0))]; exact h2 j hj⟩
  · obtain ⟨h1, h2, h3⟩ := h.rows i hi k hk ht
    exact ⟨h1, hoff _ h2, fun j hj => by rw [hcell _ _ (hno _ _ _ (h3 0 hN0))]; exact h3 j hj⟩
  · rw [hW2]
    exact ownsRow_setCell_other (ownsRow_setCell_other h.bag hbv _) hbv _

/-- What StepOf answers, of an engine that is right. -/
def StepRef (n : Net) (x : EngM) (v : Ev) (w : World) (r : Ending) (w' : World) : Prop :=
  Below w.heap.size w w' ∧
  ((x.eng.stepErr n v ≠ 0 ∧ r = .returned (.tuple #[zeroEng, .int .i64 (x.eng.stepErr n v)])) ∨
   (x.eng.stepErr n v = 0 ∧ ∃ m : EngM, r = .returned (.tuple #[m.val, .int .i64 0]) ∧ m.In w'.heap.size w' ∧ m.eng = x.eng.step n v ∧ m.err n = 0 ∧ m.bag.bn ≤ m.bag.bc ∧ m.Apart w'))

/-- The end: the engine goes into the result's box. -/
theorem step_fin {n : NetM} {x : EngM} {v : EvM} {w W : World} {base P N : Nat} {e : Eng} {Bv : Value} {y : Lay} (hL : Live base P N e Bv y W) (hs : SB w n x v W) (hlo : w.heap.size + 3 < base) (hck : n.net.check = 0) (hN : n.nodes = N) (hfit : e.Fit n.net) (he : e = x.eng.step n.net v.ev) (h0 : x.eng.stepErr n.net v.ev = 0) :
    StepRef n.net x v.ev w (.returned (.tuple #[.agg #[.slice (some ⟨y.G, 0, none⟩) N y.gc, Bv], .int .i64 0])) ((W.setCell ⟨w.heap.size + 3, 0, none⟩ (.slice (some ⟨y.G, 0, none⟩) N y.gc)).setCell ⟨w.heap.size + 3, 1, none⟩ Bv) := by
  obtain ⟨hN0, hN6, hNN, hnn⟩ := nodes_six hck hN
  have hl6 := hL.setOld hN0 hlo hs.br (.slice (some ⟨y.G, 0, none⟩) N y.gc) Bv
  obtain ⟨m, hmc, hmin, hme, hm1, hm2, hm3, hm4, hm5, hm6, hm7⟩ := hl6.outF hN0 hN6 hfit.many (fun m hm => (hfit.mail m hm).2.2)
  have hmr : m.err n.net = 0 := EngM.of_right ⟨hck, hm1, hm2, hm3, fun i hi q hq => by rw [hme]; exact hm4 i hi q hq, by rw [hm5]; exact hfit.many, by rw [hme]; exact hfit⟩ hnn
  exact ⟨(hs.below.setCell (p := ⟨w.heap.size + 3, 0, none⟩) (by show w.heap.size ≤ w.heap.size + 3; omega) _).setCell (p := ⟨w.heap.size + 3, 1, none⟩) (by show w.heap.size ≤ w.heap.size + 3; omega) _, Or.inr ⟨h0, m, by rw [EngM.val, hmc], hmin, by rw [hme]; exact he, hmr, hm6.cap, hm7⟩⟩
/-- The end with an error. -/
theorem step_no {n : NetM} {x : EngM} {v : EvM} {w W : World} {er : Int} (hs : SB w n x v W) (he : x.eng.stepErr n.net v.ev = er) (h0 : er ≠ 0) :
    StepRef n.net x v.ev w (.returned (.tuple #[.agg #[.slice none 0 0, .slice none 0 0], .int .i64 er])) ((W.setCell ⟨w.heap.size + 3, 0, none⟩ (.slice none 0 0)).setCell ⟨w.heap.size + 3, 1, none⟩ (.slice none 0 0)) :=
  ⟨(hs.below.setCell (p := ⟨w.heap.size + 3, 0, none⟩) (by show w.heap.size ≤ w.heap.size + 3; omega) _).setCell (p := ⟨w.heap.size + 3, 1, none⟩) (by show w.heap.size ≤ w.heap.size + 3; omega) _, Or.inl ⟨by rw [he]; exact h0, by rw [he]; rfl⟩⟩

end Go.Proofs.YtjhkadffaephmabGreat

/-
  What an event answers and does, kind by kind.
-/
namespace Go.Proofs.YtjhkadffaephmabGreat

section
variable {n : Net} {e : Eng} {v : Ev}
theorem Eng.err_kind (h : v.kind < 1 ∨ 7 < v.kind) : e.stepErr n v = 7 := by unfold Eng.stepErr; rw [if_pos h]
theorem Eng.err_place (h2 : 2 ≤ v.kind) (h5 : v.kind ≤ 5) (h : v.loc < 0 ∨ (e.bag.length : Int) ≤ v.loc) : e.stepErr n v = 5 := by unfold Eng.stepErr; rw [if_neg (by omega), if_pos (by omega), if_pos h]
theorem Eng.err_node (hk : v.kind = 1 ∨ v.kind = 6 ∨ v.kind = 7) (h : v.loc < 0 ∨ n.nodes ≤ v.loc) : e.stepErr n v = 5 := by unfold Eng.stepErr; rw [if_neg (by omega), if_neg (by omega), if_pos h]
theorem Eng.err_tick (hk : v.kind = 1) (h0 : 0 ≤ v.loc) (h1 : v.loc < n.nodes) : e.stepErr n v = if 120 < e.bag.length + (n.hearers v.loc.toNat).length then 2 else 0 := by unfold Eng.stepErr; rw [if_neg (by omega), if_neg (by omega), if_neg (by omega), if_pos hk]
theorem Eng.err_deliver (hk : v.kind = 2) (h0 : 0 ≤ v.loc) (h1 : v.loc < e.bag.length) : e.stepErr n v = 0 := by unfold Eng.stepErr; rw [if_neg (by omega), if_pos (by omega), if_neg (by omega), if_neg (by omega), if_neg (by omega)]
theorem Eng.err_twice (hk : v.kind = 3) (h0 : 0 ≤ v.loc) (h1 : v.loc < e.bag.length) : e.stepErr n v = if 120 ≤ e.bag.length then 2 else 0 := by unfold Eng.stepErr; rw [if_neg (by omega), if_pos (by omega), if_neg (by omega), if_pos hk]
theorem Eng.err_lose (hk : v.kind = 4) (h0 : 0 ≤ v.loc) (h1 : v.loc < e.bag.length) : e.stepErr n v = 0 := by unfold Eng.stepErr; rw [if_neg (by omega), if_pos (by omega), if_neg (by omega), if_neg (by omega), if_neg (by omega)]
theorem Eng.err_spoil (hk : v.kind = 5) (h0 : 0 ≤ v.loc) (h1 : v.loc < e.bag.length) : e.stepErr n v = if (v.b < 0 ∨ ((e.bag.getD v.loc.toNat noMail).b.length : Int) ≤ v.b) ∨ (v.c < 1 ∨ 255 < v.c) then 3 else 0 := by unfold Eng.stepErr; rw [if_neg (by omega), if_pos (by omega), if_neg (by omega), if_neg (by omega), if_pos hk]
theorem Eng.err_expire (hk : v.kind = 6) (h0 : 0 ≤ v.loc) (h1 : v.loc < n.nodes) : e.stepErr n v = if v.b < 0 ∨ n.nodes ≤ v.b then 5 else 0 := by unfold Eng.stepErr; rw [if_neg (by omega), if_neg (by omega), if_neg (by omega), if_neg (by omega), if_pos hk]
theorem Eng.err_restart (hk : v.kind = 7) (h0 : 0 ≤ v.loc) (h1 : v.loc < n.nodes) : e.stepErr n v = n.row v.n v.R := by unfold Eng.stepErr; rw [if_neg (by omega), if_neg (by omega), if_neg (by omega), if_neg (by omega), if_neg (by omega)]
theorem Eng.does_tick (hk : v.kind = 1) : e.step n v = e.tick n v.loc.toNat := by unfold Eng.step; rw [if_pos hk]
theorem Eng.does_deliver (hk : v.kind = 2) : e.step n v = e.deliver n v.loc.toNat := by unfold Eng.step; rw [if_neg (by omega), if_pos hk]
theorem Eng.does_twice (hk : v.kind = 3) : e.step n v = e.twice v.loc.toNat := by unfold Eng.step; rw [if_neg (by omega), if_neg (by omega), if_pos hk]
theorem Eng.does_lose (hk : v.kind = 4) : e.step n v = e.without v.loc.toNat := by unfold Eng.step; rw [if_neg (by omega), if_neg (by omega), if_neg (by omega), if_pos hk]
theorem Eng.does_spoil (hk : v.kind = 5) : e.step n v = e.spoil v.loc.toNat v.b.toNat (u8 v.c) := by unfold Eng.step; rw [if_neg (by omega), if_neg (by omega), if_neg (by omega), if_neg (by omega), if_pos hk]
theorem Eng.does_expire (hk : v.kind = 6) : e.step n v = e.expire n v.loc.toNat v.b.toNat := by unfold Eng.step; rw [if_neg (by omega), if_neg (by omega), if_neg (by omega), if_neg (by omega), if_neg (by omega), if_pos hk]
theorem Eng.does_restart (hk : v.kind = 7) : e.step n v = e.restart v.loc.toNat v.R := by unfold Eng.step; rw [if_neg (by omega), if_neg (by omega), if_neg (by omega), if_neg (by omega), if_neg (by omega), if_neg (by omega)]
end

end Go.Proofs.YtjhkadffaephmabGreat
