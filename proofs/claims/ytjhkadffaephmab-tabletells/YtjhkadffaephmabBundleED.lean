/-
  Our own texts, bundled: a claim holds few files.
-/
import Derived.Test.YtjhkadffaephmabBundleDG
import Derived.Test.YtjhkadffaephmabBundleBJ
import Derived.Test.YtjhkadffaephmabBundleDH
/-
  Which node signpostref.TableOf takes: plain mathematics.
-/
namespace Go.Proofs.Ytjhkadffaephmab

/-- The node that was taken last, of k nodes. -/
def Net.takes (n : Net) (x : Nat → Nat → Int) (i j : Nat) : Nat → Int
  | 0 => -1
  | k + 1 => if 0 ≤ n.edge i k then (if n.a.B.get (n.out i j (fun k => x k j) k) (n.a.E.get (n.edge i k) (x k j)) = n.out i j (fun k => x k j) k then n.takes x i j k else (k : Int)) else n.takes x i j k

section
variable {n : Net}
theorem Net.takes_in {x : Nat → Nat → Int} {i j : Nat} : ∀ k, n.takes x i j k = -1 ∨ (0 ≤ n.takes x i j k ∧ n.takes x i j k < (k : Int))
  | 0 => Or.inl rfl
  | k + 1 => by
    have := Net.takes_in (x := x) (i := i) (j := j) k
    rw [Net.takes]
    split
    · split
      · omega
      · omega
    · omega
theorem Net.takes_spec (g : n.Good) {x : Nat → Nat → Int} (hx : n.State x) {i j : Nat} (hj : j < n.N) (hne : i ≠ j) : ∀ k, k ≤ n.N →
    (n.takes x i j k = -1 ∧ n.out i j (fun k => x k j) k = n.a.size - 1) ∨
    ∃ q : Nat, n.takes x i j k = q ∧ q < k ∧ 0 ≤ n.edge i q ∧ n.a.E.get (n.edge i q) (x q j) = n.out i j (fun k => x k j) k ∧ n.out i j (fun k => x k j) k ≠ n.a.size - 1 ∧ ∀ p : Nat, p < q → 0 ≤ n.edge i p → n.a.E.get (n.edge i p) (x p j) ≠ n.out i j (fun k => x k j) k
  | 0, _ => Or.inl ⟨rfl, by rw [Net.out, if_neg hne]⟩
  | k + 1, hk => by
    have ih := Net.takes_spec g hx hj hne k (by omega)
    have hR : n.Routes fun k => x k j := fun k hk => hx k j hk hj
    obtain ⟨r1, _, _, r4⟩ := n.out_spec g hR i j k (by omega)
    have hs := g.law.good.lo
    rw [Net.takes, Net.out]
    by_cases he : 0 ≤ n.edge i k
    · rw [if_pos he, if_pos he]
      have hw := Net.cand g hR (i := i) (k := k) (by omega) he

      generalize hW : n.a.E.get (n.edge i k) (x k j) = W at *
      generalize hO : n.out i j (fun k => x k j) k = O at *
      by_cases hb : n.a.B.get O W = O
      · rw [if_pos hb, hb]
        rcases ih with h | ⟨q, h1, h2, h3, h4, h5, h6⟩
        · exact Or.inl h
        · exact Or.inr ⟨q, h1, by omega, h3, h4, h5, h6⟩
      · rw [if_neg hb]
        have hbw : n.a.B.get O W = W := (g.law.sel O W r1.1 r1.2 hw.1 hw.2).resolve_left hb
        rw [hbw]
        right
        refine ⟨k, rfl, by omega, he, hW, fun e => hb ?_, fun p hp hep e => hb ?_⟩
        · rw [e, g.law.comm O (n.a.size - 1) r1.1 r1.2 (by omega) (by omega), g.law.last O r1.1 r1.2]
        · have := r4 p hp hep
          rw [e] at this
          exact this
    · rw [if_neg he, if_neg he]
      rcases ih with h | ⟨q, h1, h2, h3, h4, h5, h6⟩
      · exact Or.inl h
      · exact Or.inr ⟨q, h1, by omega, h3, h4, h5, h6⟩
theorem Net.takes_next (g : n.Good) {x : Nat → Nat → Int} (hx : n.State x) {i j : Nat} (hj : j < n.N) (hne : i ≠ j) : n.takes x i j n.N = n.next x i j := by
  rcases Net.takes_spec g hx hj hne n.N (Nat.le_refl _) with ⟨h1, h2⟩ | ⟨q, h1, h2, h3, h4, h5, h6⟩
  · rw [h1, n.next_none (Or.inr h2)]
  · rw [h1, n.next_one hne h5 h2 h3 h4 h6]
end

end Go.Proofs.Ytjhkadffaephmab

/-
  signpostref.TableOf.
-/
namespace Go.Proofs.Ytjhkadffaephmab
set_option maxRecDepth 100000
open Go.RowKit

set_option maxHeartbeats 4000000 in
theorem tableOf_any (n : NetM) (x : Mat) (w : World) (h : n.In w.heap.size w) (hx : x.In w.heap.size w) (hck : n.net.check = 0) (his : n.net.Is x.t) :
    Calls Try.prog 54 #[n.val, x.val] w fun e w' => (∃ m : Mat, e = .returned m.val ∧ Fresh n.net.N w.heap.size (n.net.next x.t.Z) m w') ∧ Below w.heap.size w w' := by
  have g := Net.good_of_check hck
  have lo := g.lo
  have hi6 := g.hi
  have hs2 : 2 ≤ n.a.size := g.law.good.lo
  have hs24 : n.a.size ≤ 24 := g.law.good.hi
  obtain ⟨N, hN⟩ : ∃ N : Nat, n.nodes = N := ⟨n.nodes.toNat, by have : n.net.nodes = n.nodes := rfl; omega⟩
  have hNN : n.net.N = N := by show n.nodes.toNat = N; omega
  have hN6 : N ≤ 6 := by have : n.net.nodes = n.nodes := rfl; omega
  have hN1 : 0 < N := by have : n.net.nodes = n.nodes := rfl; omega
  obtain ⟨i1, hi1, hy0, hy1, hy2⟩ := info_parts Try.infoInt
  obtain ⟨i2, hi2, hx0, hx1, hx2⟩ := info_parts Try.infoInts
  have hcells : n.cells = #[.int .i64 n.a.size, .slice n.a.B.ga n.a.B.t.len n.a.B.cap, .slice n.a.E.ga n.a.E.t.len n.a.E.cap, .int .i64 N, .slice n.la n.ln n.lc] := by simp only [NetM.cells, Mat.val, hN]
  have hxl : x.t.len = N := by rw [← hNN]; exact his.len
  have hxw : ∀ r, r < N → x.t.L r = N := fun r hr => by rw [← hNN]; exact his.wide r (by rw [hNN]; exact hr)
  have HEd := hide (fun (i k : Int) (W : World) (hb : Below w.heap.size w W) => edgeOf_any n i k W (h.grown hb))
  have H := hide h
  have HX := hide hx
  have HXL := hide hxl
  have HXW := hide hxw
  have G := hide g
  have Hst := hide his.state
  have HNN := hide hNN
  have hval : n.val = .agg #[.int .i64 n.a.size, .slice n.a.B.ga n.a.B.t.len n.a.B.cap, .slice n.a.E.ga n.a.E.t.len n.a.E.cap, .int .i64 N, .slice n.la n.ln n.lc] := by rw [NetM.val, hcells]
  simp only [Mat.val, hxl]
  rw [hval] at HEd ⊢
  rw [hcells] at HEd
  obtain ⟨W0, hW0⟩ : ∃ W0, W0 = w.alloc (.cells #[.int .i64 n.a.size, .slice n.a.B.ga n.a.B.t.len n.a.B.cap, .slice n.a.E.ga n.a.E.t.len n.a.E.cap, .int .i64 N, .slice n.la n.ln n.lc] 41) := ⟨_, rfl⟩
  have B0 : Hid (Below w.heap.size w W0) := hide (by rw [hW0]; exact (Below.refl _ w).alloc (Nat.le_refl _) _)
  have Hb0 : Hid (Blk W0 w.heap.size #[.int .i64 n.a.size, .slice n.a.B.ga n.a.B.t.len n.a.B.cap, .slice n.a.E.ga n.a.E.t.len n.a.E.cap, .int .i64 N, .slice n.la n.ln n.lc] 41) := hide (by rw [hW0]; exact Blk.new w _ _)
  clear hN hcells hval h hck hNN lo hi6 g hx his hxl hxw
  go_enter Try.func54, Try.ntmps54
  go_wp2_with fail
  rw [← hW0]
  clear hW0
  go_loopw [6, 7, 8, 9, 10, 11, 12, 13, 14] (fun s q _ _ _ _ _ _ _ wr => ∃ i : Nat, i ≤ N ∧ q = .int .i64 i ∧ Hid (OwnTab W0.heap.size wr.heap.size s i N (n.net.next x.t.Z) wr) ∧ Hid (Below W0.heap.size W0 wr)) (fun _ q _ _ _ _ _ _ _ _ => N - (intOf q).toNat)
  case atStart => exact ⟨0, Nat.zero_le _, rfl, hide (OwnTab.nil _ _ _ _ _), hide (Below.refl _ _)⟩
  case round =>
    obtain ⟨i, hi, rfl, HT, HB⟩ := hrel
    have bN := Hb0.out.below HB.out Hb0.out.lt
    have x3 := bN.cell 3
    simp at x3
    by_cases hlt : i < N
    · have hii : (i : Int) < (N : Int) := by omega
      obtain ⟨Vo, hVo⟩ : ∃ Vo, Vo = u6 := ⟨_, rfl⟩
      obtain ⟨Hh, hH⟩ : ∃ Hh, Hh = wr.heap.size := ⟨_, rfl⟩
      have HI0 : Hid (RndI W0 N (n.net.next x.t.Z) Vo i Hh (.slice none 0 0) 0 wr) := hide (by
        rw [hVo, hH]
        exact ⟨HB.out, HT.out, HB.out.size, Nat.le_refl _, World.ownsRow_nil wr _ _ 1⟩)
      clear HT HB bN
      go_wp2_with fail
      rw [← hVo]
      clear hVo hH x3
      go_loopw [8, 9, 10, 11, 12, 13, 14] (fun s q _ _ _ _ _ wr => ∃ j : Nat, j ≤ N ∧ q = .int .i64 j ∧ Hid (RndI W0 N (n.net.next x.t.Z) Vo i Hh s j wr)) (fun _ q _ _ _ _ _ _ => N - (intOf q).toNat)
      case atStart => exact ⟨0, Nat.zero_le _, rfl, HI0⟩
      case round =>
        clear HI0
        obtain ⟨j, hj, rfl, HJ⟩ := hrel
        obtain ⟨Vr, hVr⟩ : ∃ Vr, Vr = u8 := ⟨_, rfl⟩
        have bN := Hb0.out.below HJ.out.below Hb0.out.lt
        have x3 := bN.cell 3
        simp at x3
        by_cases hjl : j < N
        · have hji : (j : Int) < (N : Int) := by omega
          rw [← hVr] at HJ
          go_wp2_with fail
          rw [← hVr]
          clear hVr x3 bN
          go_loopw [10, 11, 12, 13, 14] (fun b q c _ _ wr => ∃ (k : Nat) (bb tt : Int), k ≤ N ∧ b = .int .i64 bb ∧ q = .int .i64 tt ∧ c = .int .i64 k ∧ 0 ≤ bb ∧ bb < n.a.size ∧ Hid (i = j → k = 0) ∧ Hid (tt = n.net.takes x.t.Z i j k) ∧ Hid (i ≠ j → bb = n.net.out i j (fun k => x.t.Z k j) k) ∧ Hid (RndI W0 N (n.net.next x.t.Z) Vo i Hh Vr j wr)) (fun _ _ c _ _ _ => N - (intOf c).toNat)
          case atStart => exact ⟨0, n.a.size - 1, -1, Nat.zero_le _, by go_num, rfl, rfl, by omega, by omega, hide (fun _ => rfl), hide rfl, hide (fun hne => by rw [Net.out, if_neg hne]; rfl), HJ⟩
          case round =>
            clear HJ
            obtain ⟨k, bb, tt, hk, rfl, rfl, rfl, hb0, hb1, Hij, Htt, Hbb, HJ⟩ := hrel
            have bN := Hb0.out.below HJ.out.below Hb0.out.lt
            have x0 := bN.cell 0
            have x1 := bN.cell 1
            have x2 := bN.cell 2
            have x3 := bN.cell 3
            have x4 := bN.cell 4
            simp at x0 x1 x2 x3 x4
            by_cases hgo : k < N ∧ i ≠ j
            · have hki : (k : Int) < (N : Int) := by omega
              have hne' : ((i : Int) != (j : Int)) = true := by simp; omega
              have Hne := hide hgo.2
              have hkN := hgo.1
              have HC := hide (HEd.out i k wr (B0.out.trans (HJ.out.below.mono B0.out.size)))
              have Hbb2 := hide (Hbb.out hgo.2)
              clear hgo bN Hbb
              go_wp2_with fail
              go_at_call 108
              refine HC.out.mono ?_
              rintro e w2 ⟨rfl, hw2⟩
              have HJ2 : Hid (RndI W0 N (n.net.next x.t.Z) Vo i Hh Vr j w2) := hide (by rw [hw2]; exact HJ.out.keep ((Below.refl _ _).alloc (Nat.le_refl _) _))
              clear hw2 HC x0 x1 x2 x3 x4 HJ
              have Hel : Hid (n.net.edge i k < n.a.E.t.len) := hide (n.net.edge_lt G.out i k)
              have Hed : Hid (n.net.edge i k = n.net.edge i k) := hide rfl
              generalize hed : n.net.edge i k = ed at *
              by_cases he : 0 ≤ ed
              · obtain ⟨en, hen⟩ : ∃ en : Nat, ed = en := ⟨ed.toNat, by omega⟩
                subst hen
                have hzx := Hst.out k j (by rw [HNN.out]; exact hkN) (by rw [HNN.out]; exact hjl)
                have hcand := Net.cand G.out (f := fun k => x.t.Z k j) (fun k hk => Hst.out k j hk (by rw [HNN.out]; exact hjl)) (i := i) (k := k) (by rw [HNN.out]; exact hkN) (by rw [hed]; exact he)
                have hBw : Below w.heap.size w w2 := B0.out.trans (HJ2.out.below.mono B0.out.size)
                have hI := H.out.below hBw (Nat.le_refl _)
                obtain ⟨c1, c2, c3⟩ := (HX.out.below hBw (Nat.le_refl _)).at (show k < x.t.len by rw [HXL.out]; exact hkN) (show j < x.t.L k by rw [HXW.out k hkN]; exact hjl)
                rw [HXW.out k hkN] at c2
                have e1 : n.net.a.size = n.a.size := rfl
                rw [e1] at hzx hcand
                rw [hed] at hcand
                have Hot : Hid (n.net.out i j (fun k => x.t.Z k j) (k + 1) = n.net.a.B.get bb (n.net.a.E.get en (x.t.Z k j))) := hide (by rw [Net.out, hed, if_pos he, Hbb2.out])
                have Htk : Hid (n.net.takes x.t.Z i j (k + 1) = if n.net.a.B.get bb (n.net.a.E.get en (x.t.Z k j)) = bb then n.net.takes x.t.Z i j k else (k : Int)) := hide (by rw [Net.takes, hed, if_pos he, Hbb2.out])
                have Hsel : Hid (n.net.a.B.get bb (n.net.a.E.get en (x.t.Z k j)) = bb ∨ n.net.a.B.get bb (n.net.a.E.get en (x.t.Z k j)) = n.net.a.E.get en (x.t.Z k j)) := hide (G.out.law.sel _ _ hb0 hb1 hcand.1 hcand.2)
                obtain ⟨xv, hxv⟩ : ∃ xv : Nat, x.t.Z k j = xv := ⟨(x.t.Z k j).toNat, by omega⟩
                rw [hxv] at c3 hcand Hot Htk Hsel hzx
                obtain ⟨bn, rfl⟩ : ∃ bn : Nat, bb = bn := ⟨bb.toNat, by omega⟩
                obtain ⟨a1, a2, a3, a4⟩ := hI.edgeAt G.out Hel.out hzx.2
                have hel := Hel.out
                generalize n.net.a.E.get en xv = wv at *
                obtain ⟨wn, rfl⟩ : ∃ wn : Nat, wv = wn := ⟨wv.toNat, by omega⟩
                obtain ⟨b1, b2, b3, b4, b5⟩ := hI.bestAt G.out hb1 hcand.2
                have bN := Hb0.out.below HJ2.out.below Hb0.out.lt
                have x1 := bN.cell 1
                have x2 := bN.cell 2
                simp at x1 x2
                have hc0 := hcand.1
                have hc1 := hcand.2
                clear hed Hed Hel hI hBw bN hxv hzx hcand e1 Hbb2
                by_cases hbe : n.net.a.B.get bn wn = bn
                · have hbe' : (n.net.a.B.get bn wn != (bn : Int)) = false := by simp [hbe]
                  have Ht2 : Hid (tt = n.net.takes x.t.Z i j (k + 1)) := hide (by rw [Htk.out, if_pos hbe]; exact Htt.out)
                  have Hb2 : Hid (i ≠ j → (bn : Int) = n.net.out i j (fun k => x.t.Z k j) (k + 1)) := hide (fun _ => by rw [Hot.out, hbe])
                  have Hij2 : Hid (i = j → k + 1 = 0) := hide (fun e => absurd e Hne.out)
                  clear hbe Htk Hot Hsel Htt
                  go_wp2_with fail
                  go_quiet (fail)
                  go_wp2
                  go_roundw
                  case rel =>
                    first
                    | exact ⟨k + 1, bn, tt, by omega, rfl, rfl, by go_num, hb0, hb1, Hij2, Ht2, Hb2, hide (HJ2.out.keep (below_drewN (Below.refl _ _) _))⟩
                    | ((try rw [← a1]); (try rw [← b1]); (try rw [← c1]); (repeat apply Exists.intro); refine ⟨?_, rfl⟩; exact ⟨k + 1, bn, tt, by omega, rfl, rfl, by go_num, hb0, hb1, Hij2, Ht2, Hb2, hide (HJ2.out.keep (below_drewN (Below.refl _ _) _))⟩)
                  case measure => simp [intOf]; omega
                · have hbe' : (n.net.a.B.get bn wn != (bn : Int)) = true := by simp [hbe]
                  have Ht2 : Hid ((k : Int) = n.net.takes x.t.Z i j (k + 1)) := hide (by rw [Htk.out, if_neg hbe])
                  have Hb2 : Hid (i ≠ j → (wn : Int) = n.net.out i j (fun k => x.t.Z k j) (k + 1)) := hide (fun _ => by rw [Hot.out]; exact (Hsel.out.resolve_left hbe).symm)
                  have Hij2 : Hid (i = j → k + 1 = 0) := hide (fun e => absurd e Hne.out)
                  clear hbe Htk Hot Hsel Htt
                  go_wp2_with fail
                  go_quiet (fail)
                  go_wp2
                  go_roundw
                  case rel =>
                    first
                    | exact ⟨k + 1, wn, k, by omega, rfl, rfl, by go_num, hc0, hc1, Hij2, Ht2, Hb2, hide (HJ2.out.keep (below_drewN (Below.refl _ _) _))⟩
                    | ((try rw [← a1]); (try rw [← b1]); (try rw [← c1]); (repeat apply Exists.intro); refine ⟨?_, rfl⟩; exact ⟨k + 1, wn, k, by omega, rfl, rfl, by go_num, hc0, hc1, Hij2, Ht2, Hb2, hide (HJ2.out.keep (below_drewN (Below.refl _ _) _))⟩)
                  case measure => simp [intOf]; omega
              · have he' : ed < 0 := by omega
                have Ht2 : Hid (tt = n.net.takes x.t.Z i j (k + 1)) := hide (by rw [Net.takes, hed, if_neg he]; exact Htt.out)
                have Hb2 : Hid (i ≠ j → bb = n.net.out i j (fun k => x.t.Z k j) (k + 1)) := hide (fun _ => by rw [Net.out, hed, if_neg he]; exact Hbb2.out)
                have Hij2 : Hid (i = j → k + 1 = 0) := hide (fun e => absurd e Hne.out)
                clear hed Hed Hel he
                go_wp2
                go_roundw
                case rel =>
                  first
                  | exact ⟨k + 1, bb, tt, by omega, rfl, rfl, by go_num, hb0, hb1, Hij2, Ht2, Hb2, HJ2⟩
                  | ((repeat apply Exists.intro); refine ⟨?_, rfl⟩; exact ⟨k + 1, bb, tt, by omega, rfl, rfl, by go_num, hb0, hb1, Hij2, Ht2, Hb2, HJ2⟩)
                case measure => simp [intOf]; omega
            · have Hfin : Hid (tt = n.net.next x.t.Z i j) := hide (by
                by_cases e : i = j
                · have hk0 := Hij.out e
                  rw [Htt.out, hk0, n.net.next_none (Or.inl e)]
                  rfl
                · have hkN : k = n.net.N := by rw [HNN.out]; apply Classical.byContradiction; intro hc; exact hgo ⟨by omega, e⟩
                  rw [Htt.out, hkN]
                  exact Net.takes_next G.out Hst.out (by rw [HNN.out]; exact hjl) e)
              have Hcase : Hid ((k < N ∧ i = j) ∨ k = N) := hide (by
                by_cases e : k < N
                · exact Or.inl ⟨e, Classical.byContradiction fun hc => hgo ⟨e, hc⟩⟩
                · exact Or.inr (by omega))
              clear hgo Hij Htt Hbb bN x0 x1 x2 x4
              rcases Hcase.out with ⟨hkl, hij⟩ | hkn
              · have hki : (k : Int) < (N : Int) := by omega
                have hne' : ((i : Int) != (j : Int)) = false := by simp; omega
                clear hij Hcase
                go_wp2_with (at_builtin; refine wpList_append_lies _ rfl _ _ _ rfl Hh 3 i1 _ 1 8 Try.underlying22 hi1 hy0 hy1 hy2 rfl (by decide) Vr j _ rfl (HJ.out.row.alloc _) ⟨wr.heap.size, 0, none⟩ 1 1 [.int .i64 tt] rfl rfl ?c1 ?c2 (by decide) ?c3 ?c4 ?c5 _ rfl ?_)
                all_goals try (case c1 => exact World.news_of_block (Blk.new' (by simp)))
                all_goals try (case c2 => simp [Value.oneCell'])
                all_goals try (case c3 => unfold maxLen; omega)
                all_goals try (case c4 => omega)
                all_goals try (case c5 => have := HJ.out.hi; simp; omega)
                intro g' cap' w2 hown2 hgrow hat2 hlt2
                have HJ2 := hide ((HJ.out.keep ((Below.refl _ _).alloc (Nat.le_refl _) (.cells #[.int .i64 tt] 3))).push hgrow (by rw [← Hfin.out]; exact hown2))
                clear hown2 hgrow hat2 hlt2 HJ
                go_wp2
                go_roundw
                case rel =>
                  first
                  | exact ⟨j + 1, by omega, by go_num, HJ2⟩
                  | ((repeat apply Exists.intro); refine ⟨?_, rfl⟩; exact ⟨j + 1, by omega, by go_num, HJ2⟩)
                case measure => simp [intOf]; omega
              · have hki : (N : Int) ≤ (k : Int) := by omega
                clear hkn Hcase
                go_wp2_with (at_builtin; refine wpList_append_lies _ rfl _ _ _ rfl Hh 3 i1 _ 1 8 Try.underlying22 hi1 hy0 hy1 hy2 rfl (by decide) Vr j _ rfl (HJ.out.row.alloc _) ⟨wr.heap.size, 0, none⟩ 1 1 [.int .i64 tt] rfl rfl ?c1 ?c2 (by decide) ?c3 ?c4 ?c5 _ rfl ?_)
                all_goals try (case c1 => exact World.news_of_block (Blk.new' (by simp)))
                all_goals try (case c2 => simp [Value.oneCell'])
                all_goals try (case c3 => unfold maxLen; omega)
                all_goals try (case c4 => omega)
                all_goals try (case c5 => have := HJ.out.hi; simp; omega)
                intro g' cap' w2 hown2 hgrow hat2 hlt2
                have HJ2 := hide ((HJ.out.keep ((Below.refl _ _).alloc (Nat.le_refl _) (.cells #[.int .i64 tt] 3))).push hgrow (by rw [← Hfin.out]; exact hown2))
                clear hown2 hgrow hat2 hlt2 HJ
                go_wp2
                go_roundw
                case rel =>
                  first
                  | exact ⟨j + 1, by omega, by go_num, HJ2⟩
                  | ((repeat apply Exists.intro); refine ⟨?_, rfl⟩; exact ⟨j + 1, by omega, by go_num, HJ2⟩)
                case measure => simp [intOf]; omega
        · have hjn : j = N := by omega
          have hji : (N : Int) ≤ (j : Int) := by omega
          subst hjn
          clear hVr Vr bN
          obtain ⟨gn, cn, rfl, _, hgl⟩ := HJ.out.row.form (by omega)
          obtain ⟨g, c, k1, k2, k3, k4⟩ := HJ.out.tab
          have hHi := HJ.out.hi
          have hlo := HJ.out.lo
          have HRow := hide HJ.out.row
          have HBl := hide HJ.out.below
          have hsz := HJ.out.below.size
          have Hk1 := hide k1
          have Hk3 := hide k3
          clear HJ k1 k3
          go_wp2_with (at_builtin; refine wpList_append_lies _ rfl _ _ _ rfl W0.heap.size 22 i2 _ 1 24 Try.underlying36 hi2 hx0 hx1 hx2 rfl (by decide) _ i _ rfl (Hk1.out.alloc _) ⟨wr.heap.size, 0, none⟩ 1 1 [.slice (some ⟨gn, 0, none⟩) j cn] rfl rfl ?c1 ?c2 (by decide) ?c3 ?c4 ?c5 _ rfl ?_)
          all_goals try (case c1 => exact World.news_of_block (Blk.new' (by simp)))
          all_goals try (case c2 => simp [Value.oneCell'])
          all_goals try (case c3 => unfold maxLen; omega)
          all_goals try (case c4 => omega)
          all_goals try (case c5 => simp; omega)
          intro g' cap' w2 hown2 hgrow hat2 hlt2
          have hnew := OwnTab.push (Hk1.out.alloc (.cells #[.slice (some ⟨gn, 0, none⟩) j cn] 22)) k2 (fun r hr => ⟨(Hk3.out r hr).1.alloc _, (Hk3.out r hr).2⟩) k4 hlo (HRow.out.alloc _) hown2 hgrow (by simpa using hat2)
          have HT2 := hide hnew
          have HB2 := hide ((HBl.out.alloc HBl.out.size _).trans (grown_below hgrow (fun q hq => (Hk1.out.lt q hq).1) (by simp; omega)))
          clear hown2 hgrow hat2 hlt2 hnew Hk1 Hk3 k2 k4 HRow HBl
          go_wp2
          go_roundw
          case rel =>
            first
            | exact ⟨i + 1, by omega, by go_num, HT2, HB2⟩
            | ((repeat apply Exists.intro); refine ⟨?_, rfl⟩; exact ⟨i + 1, by omega, by go_num, HT2, HB2⟩)
          case measure => simp [intOf]; omega
    · have hin : i = N := by omega
      subst hin
      have hii : (i : Int) ≤ (i : Int) := Int.le_refl _
      obtain ⟨m, e1, e2, e3, e4⟩ := HT.out.mat (by omega) (by omega)
      have He := hide e1
      have HF : Hid (Fresh n.net.N w.heap.size (n.net.next x.t.Z) m wr) := hide ⟨by rw [HNN.out]; exact e2, e3, e4.mono (by have := B0.out.size; omega)⟩
      have HBw := hide (B0.out.trans (HB.out.mono B0.out.size))
      clear e1 e2 e3 e4 HT
      go_wp2
      go_ret
      exact ⟨⟨m, congrArg Ending.returned He.out, HF.out⟩, HBw.out⟩

end Go.Proofs.Ytjhkadffaephmab
