/-
  Our own texts, bundled: a claim holds few files.
-/
import Derived.Test.YtjhkadffaephmabGreatCutEngineStepsDC
import Derived.Test.YtjhkadffaephmabGreatCutEngineStepsBH
import Derived.Test.YtjhkadffaephmabGreatCutEngineStepsCB
import Derived.Test.YtjhkadffaephmabGreatCutEngineStepsAC
import Derived.Test.YtjhkadffaephmabGreatCutEngineStepsBJ
import Derived.Test.YtjhkadffaephmabGreatCutEngineStepsCC
import Derived.Test.YtjhkadffaephmabGreatCutEngineStepsDE
import Derived.Test.YtjhkadffaephmabGreatCutEngineStepsDF
import Derived.Test.YtjhkadffaephmabGreatCutEngineStepsBC
import Derived.Test.YtjhkadffaephmabGreatCutEngineStepsAE
import Derived.Test.YtjhkadffaephmabGreatCutEngineStepsAI
import Derived.Test.YtjhkadffaephmabGreatCutEngineStepsAJ
import Derived.Test.YtjhkadffaephmabGreatCutEngineStepsDD
import Derived.Test.YtjhkadffaephmabGreatCutEngineStepsCA
/-
  EnginePlays.
-/
namespace Go.Proofs.YtjhkadffaephmabGreat
set_option maxRecDepth 100000
open Go.RowKit

theorem engineIs_zero (m : EngM) (hm : m = zeroM) (e : Int) (w : World) (he : e ≠ 0) :
    Calls Tryz.prog 13 #[.agg #[.slice m.rs.ga m.rs.gn m.rs.gc, .slice m.bag.ba m.bag.bn m.bag.bc], .int .i64 e, .int .i64 e, .agg #[.slice none 0 0, .slice none 0 0]] w fun r w' => r = .returned (.bool true) ∧ Below w.heap.size w w' := by
  subst hm
  exact engineIs_none e zeroM w he
end Go.Proofs.YtjhkadffaephmabGreat

/-
  signpostref.Column, RoundOf.
-/
namespace Go.Proofs.YtjhkadffaephmabGreat
set_option maxRecDepth 100000
open Go.RowKit

/-- i rows of the round, and j routes of the next. -/
structure RndI (w1 : World) (N : Nat) (Z : Nat → Nat → Int) (Vo : Value) (i H : Nat) (Vr : Value) (j : Nat) (W : World) : Prop where
  below : Below w1.heap.size w1 W
  tab : OwnTab w1.heap.size H Vo i N Z W
  lo : w1.heap.size ≤ H
  hi : H ≤ W.heap.size
  row : W.ownsRow H 3 1 Vr j (intsL (Z i) j)
theorem RndI.keep {w1 : World} {N : Nat} {Z : Nat → Nat → Int} {Vo : Value} {i H : Nat} {Vr : Value} {j : Nat} {W W' : World} (h : RndI w1 N Z Vo i H Vr j W) (hb : Below W.heap.size W W') : RndI w1 N Z Vo i H Vr j W' :=
  ⟨h.below.trans (hb.mono h.below.size), h.tab.below hb, h.lo, Nat.le_trans h.hi hb.size, owns_below h.row hb⟩
theorem RndI.push {w1 : World} {N : Nat} {Z : Nat → Nat → Int} {Vo : Value} {i H : Nat} {Vr V' : Value} {j : Nat} {W W' : World} (h : RndI w1 N Z Vo i H Vr j W) (hg : W.grownBy W' Vr.ownBlock)
    (ho : W'.ownsRow H 3 1 V' (j + 1) (intsL (Z i) j ++ [.int .i64 (Z i j)])) : RndI w1 N Z Vo i H V' (j + 1) W' :=
  ⟨h.below.trans (grown_below hg (fun g hg => by have := (h.row.lt g hg).1; have := h.lo; omega) h.below.size), h.tab.kept hg (fun k hk => Or.inr (h.row.lt k hk).1), h.lo, Nat.le_trans h.hi hg.size, by rw [intsL_succ]; exact ho⟩

end Go.Proofs.YtjhkadffaephmabGreat

/-
  signpostref.BeginOf, SettleOf; signpostlaw.stateIs.
-/
namespace Go.Proofs.YtjhkadffaephmabGreat
set_option maxRecDepth 100000
open Go.RowKit

set_option maxHeartbeats 4000000 in
theorem beginOf_any (n : NetM) (w : World) (hck : n.net.check = 0) :
    Calls Tryz.prog 36 #[n.val] w fun e w' => (∃ m : Mat, e = .returned m.val ∧ Fresh n.net.N w.heap.size n.net.begin m w') ∧ Below w.heap.size w w' := by
  have g := Net.good_of_check hck
  have lo := g.lo
  have hi6 := g.hi
  have hs0 : 2 ≤ n.a.size := g.law.good.lo
  have hs1 : n.a.size ≤ 24 := g.law.good.hi
  obtain ⟨N, hN⟩ : ∃ N : Nat, n.nodes = N := ⟨n.nodes.toNat, by have : n.net.nodes = n.nodes := rfl; omega⟩
  have hNN : n.net.N = N := by show n.nodes.toNat = N; omega
  have hN6 : N ≤ 6 := by have : n.net.nodes = n.nodes := rfl; omega
  have hN1 : 0 < N := by have : n.net.nodes = n.nodes := rfl; omega
  obtain ⟨i1, hi1, hy0, hy1, hy2⟩ := info_parts Tryz.infoInt
  obtain ⟨i2, hi2, hx0, hx1, hx2⟩ := info_parts Tryz.infoInts
  have HNN := hide hNN
  have Hbeg : Hid (∀ i j, n.net.begin i j = if i = j then 0 else n.a.size - 1) := hide (fun _ _ => rfl)
  have hval : n.val = .agg #[.int .i64 n.a.size, .slice n.a.B.ga n.a.B.t.len n.a.B.cap, .slice n.a.E.ga n.a.E.t.len n.a.E.cap, .int .i64 N, .slice n.la n.ln n.lc] := by simp only [NetM.val, NetM.cells, Mat.val, hN]
  simp only [Mat.val]
  rw [hval]
  obtain ⟨W0, hW0⟩ : ∃ W0, W0 = w.alloc (.cells #[.int .i64 n.a.size, .slice n.a.B.ga n.a.B.t.len n.a.B.cap, .slice n.a.E.ga n.a.E.t.len n.a.E.cap, .int .i64 N, .slice n.la n.ln n.lc] 27) := ⟨_, rfl⟩
  have B0 : Hid (Below w.heap.size w W0) := hide (by rw [hW0]; exact (Below.refl _ w).alloc (Nat.le_refl _) _)
  have Hb0 : Hid (Blk W0 w.heap.size #[.int .i64 n.a.size, .slice n.a.B.ga n.a.B.t.len n.a.B.cap, .slice n.a.E.ga n.a.E.t.len n.a.E.cap, .int .i64 N, .slice n.la n.ln n.lc] 27) := hide (by rw [hW0]; exact Blk.new w _ _)
  clear hN hval hck hNN lo hi6 g
  go_enter Tryz.func36, Tryz.ntmps36
  go_wp2_with fail
  rw [← hW0]
  clear hW0
  go_loopw [3, 4, 5, 6] (fun s q _ _ wr => ∃ i : Nat, i ≤ N ∧ q = .int .i64 i ∧ Hid (OwnTab W0.heap.size wr.heap.size s i N n.net.begin wr) ∧ Hid (Below W0.heap.size W0 wr)) (fun _ q _ _ _ => N - (intOf q).toNat)
  case atStart => exact ⟨0, Nat.zero_le _, rfl, hide (OwnTab.nil _ _ _ _ _), hide (Below.refl _ _)⟩
  case round =>
    obtain ⟨i, hi, rfl, HT, HB⟩ := hrel
    have bN := Hb0.out.below HB.out Hb0.out.lt
    have x3 := bN.cell 3
    simp at x3
    by_cases hlt : i < N
    · have hii : (i : Int) < (N : Int) := by omega
      obtain ⟨Vo, hVo⟩ : ∃ Vo, Vo = u3 := ⟨_, rfl⟩
      obtain ⟨H, hH⟩ : ∃ H, H = wr.heap.size := ⟨_, rfl⟩
      have HI0 : Hid (RndI W0 N n.net.begin Vo i H (.slice none 0 0) 0 wr) := hide (by
        rw [hVo, hH]
        exact ⟨HB.out, HT.out, HB.out.size, Nat.le_refl _, World.ownsRow_nil wr _ _ 1⟩)
      clear HT HB bN
      go_wp2_with fail
      rw [← hVo]
      clear hVo hH x3
      go_loopw [5, 6] (fun s q wr => ∃ j : Nat, j ≤ N ∧ q = .int .i64 j ∧ Hid (RndI W0 N n.net.begin Vo i H s j wr)) (fun _ q _ => N - (intOf q).toNat)
      case atStart => exact ⟨0, Nat.zero_le _, rfl, HI0⟩
      case round =>
        clear HI0
        obtain ⟨j, hj, rfl, HJ⟩ := hrel
        have bN := Hb0.out.below HJ.out.below Hb0.out.lt
        have x3 := bN.cell 3
        have x0 := bN.cell 0
        simp at x3 x0
        by_cases hjl : j < N
        · have hji : (j : Int) < (N : Int) := by omega
          have hHi := HJ.out.hi
          have key : ∃ v : Int, v = n.net.begin i j ∧ ((i = j ∧ v = 0) ∨ (i ≠ j ∧ v = n.a.size - 1)) := by
            by_cases e : i = j
            · exact ⟨_, rfl, Or.inl ⟨e, by rw [Hbeg.out, if_pos e]⟩⟩
            · exact ⟨_, rfl, Or.inr ⟨e, by rw [Hbeg.out, if_neg e]⟩⟩
          obtain ⟨v, hv, hcase⟩ := key
          have Hv := hide hv
          clear hv
          rcases hcase with ⟨hij, hv⟩ | ⟨hij, hv⟩
          · have hij' : ((i : Int) == (j : Int)) = true := by simp [hij]
            subst hv
            clear hij
            go_wp2_with (at_builtin; refine wpList_append_lies _ rfl _ _ _ rfl H 3 i1 _ 1 8 Tryz.underlying32 hi1 hy0 hy1 hy2 rfl (by decide) _ j _ rfl (HJ.out.row.alloc _) ⟨wr.heap.size, 0, none⟩ 1 1 [.int .i64 0] rfl rfl ?c1 ?c2 (by decide) ?c3 ?c4 ?c5 _ rfl ?_)
            all_goals try (case c1 => exact World.news_of_block (Blk.new' (by simp)))
            all_goals try (case c2 => simp [Value.oneCell'])
            all_goals try (case c3 => unfold maxLen; omega)
            all_goals try (case c4 => omega)
            all_goals try (case c5 => simp; omega)
            intro g' cap' w2 hown2 hgrow hat2 hlt2
            have HJ2 := hide ((HJ.out.keep ((Below.refl _ wr).alloc (Nat.le_refl _) (.cells #[.int .i64 0] 3))).push hgrow (by rw [← Hv.out]; exact hown2))
            clear hown2 hgrow hat2 hlt2
            go_wp2
            go_roundw
            case rel =>
              first
              | exact ⟨j + 1, by omega, by go_num, HJ2⟩
              | ((repeat apply Exists.intro); refine ⟨?_, rfl⟩; exact ⟨j + 1, by omega, by go_num, HJ2⟩)
            case measure => simp [intOf]; omega
          · have hij' : ((i : Int) == (j : Int)) = false := by simp; omega
            clear hij
            rw [hv] at Hv
            go_wp2_with (at_builtin; refine wpList_append_lies _ rfl _ _ _ rfl H 3 i1 _ 1 8 Tryz.underlying32 hi1 hy0 hy1 hy2 rfl (by decide) _ j _ rfl (HJ.out.row.alloc _) ⟨wr.heap.size, 0, none⟩ 1 1 [.int .i64 (n.a.size - 1)] rfl rfl ?c1 ?c2 (by decide) ?c3 ?c4 ?c5 _ rfl ?_)
            all_goals try (case c1 => exact World.news_of_block (Blk.new' (by simp)))
            all_goals try (case c2 => simp [Value.oneCell'])
            all_goals try (case c3 => unfold maxLen; omega)
            all_goals try (case c4 => omega)
            all_goals try (case c5 => simp; omega)
            intro g' cap' w2 hown2 hgrow hat2 hlt2
            have HJ2 := hide ((HJ.out.keep ((Below.refl _ wr).alloc (Nat.le_refl _) (.cells #[.int .i64 (n.a.size - 1)] 3))).push hgrow (by rw [← Hv.out]; exact hown2))
            clear hown2 hgrow hat2 hlt2
            go_wp2
            go_roundw
            case rel =>
              first
              | exact ⟨j + 1, by omega, by go_num, HJ2⟩
              | ((repeat apply Exists.intro); refine ⟨?_, rfl⟩; exact ⟨j + 1, by omega, by go_num, HJ2⟩)
            case measure => simp [intOf]; omega
        · have hjn : j = N := by omega
          have hji : (N : Int) ≤ (j : Int) := by omega
          subst hjn
          obtain ⟨gn, cn, rfl, _, hgl⟩ := HJ.out.row.form (by omega)
          obtain ⟨g, c, k1, k2, k3, k4⟩ := HJ.out.tab
          have hHi := HJ.out.hi
          have hlo := HJ.out.lo
          have HRow := hide HJ.out.row
          have HBl := hide HJ.out.below
          have hsz := HJ.out.below.size
          have Hk1 := hide k1
          have Hk3 := hide k3
          clear HJ k1 k3
          go_wp2_with (at_builtin; refine wpList_append_lies _ rfl _ _ _ rfl W0.heap.size 32 i2 _ 1 24 Tryz.underlying22 hi2 hx0 hx1 hx2 rfl (by decide) _ i _ rfl (Hk1.out.alloc _) ⟨wr.heap.size, 0, none⟩ 1 1 [.slice (some ⟨gn, 0, none⟩) j cn] rfl rfl ?c1 ?c2 (by decide) ?c3 ?c4 ?c5 _ rfl ?_)
          all_goals try (case c1 => exact World.news_of_block (Blk.new' (by simp)))
          all_goals try (case c2 => simp [Value.oneCell'])
          all_goals try (case c3 => unfold maxLen; omega)
          all_goals try (case c4 => omega)
          all_goals try (case c5 => simp; omega)
          intro g' cap' w2 hown2 hgrow hat2 hlt2
          have hnew := OwnTab.push (Hk1.out.alloc (.cells #[.slice (some ⟨gn, 0, none⟩) j cn] 32)) k2 (fun r hr => ⟨(Hk3.out r hr).1.alloc _, (Hk3.out r hr).2⟩) k4 hlo (HRow.out.alloc _) hown2 hgrow (by simpa using hat2)
          have HT2 := hide hnew
          have HB2 := hide ((HBl.out.alloc HBl.out.size _).trans (grown_below hgrow (fun q hq => (Hk1.out.lt q hq).1) (by simp; omega)))
          clear hown2 hgrow hat2 hlt2 hnew Hk1 Hk3 k2 k4 HRow HBl
          go_wp2
          go_roundw
          case rel =>
            first
            | exact ⟨i + 1, by omega, by go_num, HT2, HB2⟩
            | ((repeat apply Exists.intro); refine ⟨?_, rfl⟩; exact ⟨i + 1, by omega, by go_num, HT2, HB2⟩)
          case measure => simp [intOf]; omega
    · have hin : i = N := by omega
      subst hin
      have hii : (i : Int) ≤ (i : Int) := Int.le_refl _
      obtain ⟨m, e1, e2, e3, e4⟩ := HT.out.mat (by omega) (by omega)
      have He := hide e1
      have HF : Hid (Fresh n.net.N w.heap.size n.net.begin m wr) := hide ⟨by rw [HNN.out]; exact e2, e3, e4.mono (by have := B0.out.size; omega)⟩
      have HBw := hide (B0.out.trans (HB.out.mono B0.out.size))
      clear e1 e2 e3 e4 HT
      go_wp2
      go_ret
      exact ⟨⟨m, congrArg Ending.returned He.out, HF.out⟩, HBw.out⟩

end Go.Proofs.YtjhkadffaephmabGreat

/-
  signpostref.NewOf.
-/
namespace Go.Proofs.YtjhkadffaephmabGreat
set_option maxRecDepth 100000
open Go.RowKit

/-- Routers that are new, as cells. -/
def nrV (m : Mat) (Tb : Nat → Nat) (N : Nat) : Nat → List Value
  | 0 => []
  | k + 1 => nrV m Tb N k ++ [.slice (m.A k) N (m.C k), .slice (some ⟨Tb k, 0, none⟩) N N]
theorem nrV_len (m : Mat) (Tb : Nat → Nat) (N : Nat) : ∀ k, (nrV m Tb N k).length = k * 2
  | 0 => rfl
  | k + 1 => by show (nrV m Tb N k ++ _).length = _; rw [List.length_append, nrV_len m Tb N k]; simp; omega
theorem nrV_get (m : Mat) (Tb : Nat → Nat) (N : Nat) : ∀ k i, i < k → (nrV m Tb N k)[i * 2]? = some (.slice (m.A i) N (m.C i)) ∧ (nrV m Tb N k)[i * 2 + 1]? = some (.slice (some ⟨Tb i, 0, none⟩) N N)
  | 0, i, h => absurd h (Nat.not_lt_zero _)
  | k + 1, i, h => by
    show (nrV m Tb N k ++ _)[i * 2]? = _ ∧ (nrV m Tb N k ++ _)[i * 2 + 1]? = _
    have hl := nrV_len m Tb N k
    by_cases e : i = k
    · subst e
      rw [List.getElem?_append_right (by omega), List.getElem?_append_right (by omega), hl]
      refine ⟨?_, ?_⟩
      · rw [Nat.sub_self]; rfl
      · rw [show i * 2 + 1 - i * 2 = 1 by omega]; rfl
    · rw [List.getElem?_append_left (by omega), List.getElem?_append_left (by omega)]
      exact nrV_get m Tb N k i (by omega)
theorem nrV_congr {m : Mat} {Tb Tb' : Nat → Nat} {N : Nat} : ∀ {k : Nat}, (∀ i, i < k → Tb i = Tb' i) → nrV m Tb N k = nrV m Tb' N k
  | 0, _ => rfl
  | k + 1, h => by
    show nrV m Tb N k ++ _ = nrV m Tb' N k ++ _
    rw [nrV_congr (k := k) (fun i hi => h i (by omega)), h k (by omega)]

/-- What stands while NewOf makes routers: so many. -/
structure NoI (w : World) (H : Nat) (n : NetM) (m : Mat) (N k : Nat) (V : Value) (Tb : Nat → Nat) (W : World) : Prop where
  below : Below w.heap.size w W
  hi : w.heap.size + 2 < H
  size : H ≤ W.heap.size
  bn : Blk W w.heap.size n.cells 27
  br : Blk W (w.heap.size + 1) #[.slice none 0 0, .slice none 0 0] 31
  be : Blk W (w.heap.size + 1 + 1) #[V, .slice none 0 0] 31
  own : m.From (w.heap.size + 3)
  min : m.In H W
  rtrs : W.ownsRow H 59 2 V k (nrV m Tb N k)
  tb : ∀ i, i < k → Blk W (Tb i) (madeCells #[.slice none 0 0] N) 32 ∧ H ≤ Tb i
/-- While one is put behind them: a, it was put; s, the row was stored. -/
structure NoG (w : World) (H : Nat) (n : NetM) (m : Mat) (N k : Nat) (V : Value) (W4 : World) (a s : Bool) (W : World) : Prop where
  old : a = false → Below W4.heap.size W4 W
  mid : s = false → W4.grownBy W V.ownBlock
  fin : s = true → ∃ V' Tb', NoI w H n m N (k + 1) V' Tb' W
def noE (vs : List Value) (H : Nat) (m : Mat) (N k : Nat) (xs : List Value) (W4 : World) (a s : Bool) (q : Nat) (v : Value) (W : World) : Prop :=
  match q with
  | 8 => a = false → ∃ T, v = .slice (some ⟨T, 0, none⟩) N N ∧ W4.heap.size ≤ T ∧ Blk W T (madeCells #[.slice none 0 0] N) 32
  | 9 => a = false → ∃ T, v = .agg #[.slice (m.A k) N (m.C k), .slice (some ⟨T, 0, none⟩) N N] ∧ W4.heap.size ≤ T ∧ Blk W T (madeCells #[.slice none 0 0] N) 32
  | 10 => a = false → ∃ g T, v = .slice (some ⟨g, 0, none⟩) 1 1 ∧ Blk W g #[.slice (m.A k) N (m.C k), .slice (some ⟨T, 0, none⟩) N N] 59 ∧ W4.heap.size ≤ T ∧ Blk W T (madeCells #[.slice none 0 0] N) 32
  | 11 => s = false → ∃ g cap T, v = .slice (some ⟨g, 0, none⟩) (k + 1) cap ∧ W.ownsRow H 59 2 (.slice (some ⟨g, 0, none⟩) (k + 1) cap) (k + 1) (xs ++ [.slice (m.A k) N (m.C k), .slice (some ⟨T, 0, none⟩) N N]) ∧ W4.heap.size ≤ T ∧ Blk W T (madeCells #[.slice none 0 0] N) 32
  | 13 => True
  | q => vs[q]? = some v
section
variable {w : World} {H : Nat} {n : NetM} {m : Mat} {N k : Nat} {V : Value} {Tb : Nat → Nat} {W4 W W' : World} {a s : Bool} {vs xs : List Value} {q : Nat} {u u' : Value}
theorem NoI.keep (h : NoI w H n m N k V Tb W) (hb : Below W.heap.size W W') : NoI w H n m N k V Tb W' :=
  ⟨h.below.trans (hb.mono h.below.size), h.hi, Nat.le_trans h.size hb.size, h.bn.below hb h.bn.lt, h.br.below hb h.br.lt, h.be.below hb h.be.lt, h.own, h.min.below hb h.size, owns_below h.rtrs hb, fun i hi => ⟨(h.tb i hi).1.below hb (h.tb i hi).1.lt, (h.tb i hi).2⟩⟩
theorem noE_8 : noE vs H m N k xs W4 a s 8 u W ↔ (a = false → ∃ T, u = .slice (some ⟨T, 0, none⟩) N N ∧ W4.heap.size ≤ T ∧ Blk W T (madeCells #[.slice none 0 0] N) 32) := Iff.rfl
theorem noE_9 : noE vs H m N k xs W4 a s 9 u W ↔ (a = false → ∃ T, u = .agg #[.slice (m.A k) N (m.C k), .slice (some ⟨T, 0, none⟩) N N] ∧ W4.heap.size ≤ T ∧ Blk W T (madeCells #[.slice none 0 0] N) 32) := Iff.rfl
theorem noE_10 : noE vs H m N k xs W4 a s 10 u W ↔ (a = false → ∃ g T, u = .slice (some ⟨g, 0, none⟩) 1 1 ∧ Blk W g #[.slice (m.A k) N (m.C k), .slice (some ⟨T, 0, none⟩) N N] 59 ∧ W4.heap.size ≤ T ∧ Blk W T (madeCells #[.slice none 0 0] N) 32) := Iff.rfl
theorem noE_11 : noE vs H m N k xs W4 a s 11 u W ↔ (s = false → ∃ g cap T, u = .slice (some ⟨g, 0, none⟩) (k + 1) cap ∧ W.ownsRow H 59 2 (.slice (some ⟨g, 0, none⟩) (k + 1) cap) (k + 1) (xs ++ [.slice (m.A k) N (m.C k), .slice (some ⟨T, 0, none⟩) N N]) ∧ W4.heap.size ≤ T ∧ Blk W T (madeCells #[.slice none 0 0] N) 32) := Iff.rfl
theorem noE_13 : noE vs H m N k xs W4 a s 13 u W := trivial
theorem noE_keep (hb : Below W.heap.size W W') (h : noE vs H m N k xs W4 a s q u W) : noE vs H m N k xs W4 a s q u W' := by
  unfold noE at h ⊢
  split at h
  · exact fun h0 => by obtain ⟨T, h1, h2, h3⟩ := h h0; exact ⟨T, h1, h2, h3.below hb h3.lt⟩
  · exact fun h0 => by obtain ⟨T, h1, h2, h3⟩ := h h0; exact ⟨T, h1, h2, h3.below hb h3.lt⟩
  · exact fun h0 => by obtain ⟨g, T, h1, h2, h3, h4⟩ := h h0; exact ⟨g, T, h1, h2.below hb h2.lt, h3, h4.below hb h4.lt⟩
  · exact fun h0 => by obtain ⟨g, c, T, h1, h2, h3, h4⟩ := h h0; exact ⟨g, c, T, h1, owns_below h2 hb, h3, h4.below hb h4.lt⟩
  · trivial
  · exact h
theorem noE_put (h8 : q ≠ 8) (h9 : q ≠ 9) (h10 : q ≠ 10) (h11 : q ≠ 11) (h13 : q ≠ 13) (h : vs[q]? = some u) : noE vs H m N k xs W4 a s q u W := by
  unfold noE
  split <;> first | contradiction | exact h
theorem noE_get (h : noE vs H m N k xs W4 a s q u W) (h8 : q ≠ 8) (h9 : q ≠ 9) (h10 : q ≠ 10) (h11 : q ≠ 11) (h13 : q ≠ 13) (hu : vs[q]? = some u') : u = u' := by
  unfold noE at h
  split at h <;> first | contradiction | (rw [hu] at h; exact (Option.some.inj h).symm)
theorem noE_a (W' : World) (hq : q ≠ 11) (h : noE vs H m N k xs W4 false false q u W) : noE vs H m N k xs W4 true false q u W' := by
  unfold noE at h ⊢
  split at h <;> first | contradiction | (intro h0; cases h0) | trivial | exact h
theorem noE_s (W' : World) (h : noE vs H m N k xs W4 true false q u W) : noE vs H m N k xs W4 true true q u W' := by
  unfold noE at h ⊢
  split at h <;> first | (intro h0; cases h0) | trivial | exact h
theorem NoG.start (hb : Below W4.heap.size W4 W) : NoG w H n m N k V W4 false false W :=
  ⟨fun _ => hb, fun _ => ⟨hb.os, hb.tape, hb.output, hb.size, fun k hk _ => hb.block k hk⟩, fun h0 => by cases h0⟩
theorem NoG.keep (h : NoG w H n m N k V W4 a false W) (hb : Below W.heap.size W W') : NoG w H n m N k V W4 a false W' :=
  ⟨fun h0 => (h.old h0).trans (hb.mono (h.old h0).size), fun _ => by
    have h1 := h.mid rfl
    exact ⟨hb.os.trans h1.os, hb.tape.trans h1.tape, hb.output.trans h1.output, Nat.le_trans h1.size hb.size, fun k hk hn => (hb.block k (Nat.lt_of_lt_of_le hk h1.size)).trans (h1.block k hk hn)⟩, fun h0 => by cases h0⟩
theorem NoG.append (h : NoG w H n m N k V W4 false false W) (hI : NoI w H n m N k V Tb W4) (hk : k ≤ 100) {g8 T : Nat} (hs : Blk W g8 #[.slice (m.A k) N (m.C k), .slice (some ⟨T, 0, none⟩) N N] 59) (hT : Blk W T (madeCells #[.slice none 0 0] N) 32) (ty : TypeId) :
    ∃ g cap W9, (Builtin.append_ #[28, 28] ty #[V, .slice (some ⟨g8, 0, none⟩) 1 1]).run Tryz.prog W = .ok (.slice (some ⟨g, 0, none⟩) (k + 1) cap) W9 ∧ NoG w H n m N k V W4 true false W9 ∧
      W9.ownsRow H 59 2 (.slice (some ⟨g, 0, none⟩) (k + 1) cap) (k + 1) (nrV m Tb N k ++ [.slice (m.A k) N (m.C k), .slice (some ⟨T, 0, none⟩) N N]) ∧ Blk W9 T (madeCells #[.slice none 0 0] N) 32 := by
  have hb := h.old rfl
  have ho := owns_below hI.rtrs hb
  obtain ⟨g, cap, W9, hr, h2, hg⟩ := append_rtr W H V k _ ho hk (Nat.le_trans hI.size hb.size) g8 _ _ hs rfl rfl ty
  exact ⟨g, cap, W9, hr, ⟨fun h0 => (by cases h0), fun _ => ⟨hg.os.trans hb.os, hg.tape.trans hb.tape, hg.output.trans hb.output, Nat.le_trans hb.size hg.size, fun k hk hn => (hg.block k (Nat.lt_of_lt_of_le hk hb.size) hn).trans (hb.block k hk)⟩, fun h0 => (by cases h0)⟩, h2, hT.kept hg (fun e => own_ne ho hT (by decide) e.symm rfl)⟩
theorem NoG.head (h : NoG w H n m N k V W4 a false W) (hI : NoI w H n m N k V Tb W4) : Blk W (w.heap.size + 1 + 1) #[V, .slice none 0 0] 31 :=
  ((h.mid rfl).block _ hI.be.lt (fun e1 => by have := (hI.rtrs.lt _ e1.symm).1; have := hI.hi; omega)).trans hI.be
theorem NoG.store (h : NoG w H n m N k V W4 a false W) (hI : NoI w H n m N k V Tb W4) {g cap T : Nat} (ho : W.ownsRow H 59 2 (.slice (some ⟨g, 0, none⟩) (k + 1) cap) (k + 1) (nrV m Tb N k ++ [.slice (m.A k) N (m.C k), .slice (some ⟨T, 0, none⟩) N N])) (hTl : W4.heap.size ≤ T) (hT : Blk W T (madeCells #[.slice none 0 0] N) 32) :
    NoG w H n m N k V W4 true true (W.setCell ⟨w.heap.size + 1 + 1, 0, none⟩ (.slice (some ⟨g, 0, none⟩) (k + 1) cap)) := by
  have hg := h.mid rfl
  have hH := hI.hi
  have hsz := hI.size
  have hbH : Below H W4 W := grown_below hg (fun k hk => (hI.rtrs.lt k hk).1) hI.size
  refine ⟨fun h0 => (by cases h0), fun h0 => (by cases h0), fun _ => ⟨.slice (some ⟨g, 0, none⟩) (k + 1) cap, fun r => if r = k then T else Tb r, ⟨(hI.below.trans (hbH.mono (by omega))).setCell (p := ⟨w.heap.size + 1 + 1, 0, none⟩) (by show w.heap.size ≤ w.heap.size + 1 + 1; omega) _, hI.hi, by simpa using Nat.le_trans hI.size hg.size, (hI.bn.below hbH (by omega)).other (by omega) _ _, (hI.br.below hbH (by omega)).other (by omega) _ _, ?_, hI.own, (hI.min.below hbH (Nat.le_refl _)).other hI.own (by omega) _, ?_, fun i hi => ?_⟩⟩⟩
  · have := (h.head hI).set 0 (.slice (some ⟨g, 0, none⟩) (k + 1) cap)
    simpa using this
  · have h1 : World.ownsRow (W.setCell ⟨w.heap.size + 1 + 1, 0, none⟩ (.slice (some ⟨g, 0, none⟩) (k + 1) cap)) H 59 2 _ (k + 1) _ := ownsRow_setCell_other ho (fun hv => by have h9 : H ≤ w.heap.size + 1 + 1 := (ho.lt _ hv).1; omega) _
    show World.ownsRow _ H 59 2 _ (k + 1) (nrV m _ N k ++ _)
    rw [nrV_congr (Tb' := Tb) (fun i hi => if_neg (by omega))]
    simpa using h1
  · by_cases e : i = k
    · subst e
      simp only [if_true]
      exact ⟨hT.other (by omega) _ _, Nat.le_trans hI.size hTl⟩
    · simp only [if_neg e]
      obtain ⟨h1, h2⟩ := hI.tb i (by omega)
      exact ⟨(h1.kept hg (fun e1 => own_ne hI.rtrs h1 (by decide) e1.symm rfl)).other (by omega) _ _, h2⟩
end

/-- What NewOf makes, as an engine that lies in memory. -/
theorem newof_eng {N : Nat} {n : Net} {m : Mat} {G gc lo : Nat} {vs : Array Value} {Tb : Nat → Nat} {W : World} (hrt : Blk W G vs 59) (hr0 : ∀ i, i < N → vs[i * 2]? = some (.slice (m.A i) N (m.C i))) (hr1 : ∀ i, i < N → vs[i * 2 + 1]? = some (.slice (some ⟨Tb i, 0, none⟩) N N)) (htb : ∀ i, i < N → Blk W (Tb i) (madeCells #[.slice none 0 0] N) 32) (hmi : m.In W.heap.size W) (ht : m.t = ⟨N, fun _ => N, n.begin⟩) (hck : n.check = 0) (hN : n.nodes = (N : Int)) (hN6 : N ≤ 6) (hf : m.From lo) (hG : lo ≤ G) (hTb : ∀ i, i < N → lo ≤ Tb i) :
    ∃ x : EngM, x.cells = #[.slice (some ⟨G, 0, none⟩) N gc, .slice none 0 0] ∧ x.In W.heap.size W ∧ x.err n = 0 ∧ x.eng = ⟨n.begin, fun _ _ => false, fun _ _ _ => 0, []⟩ ∧ x.From lo := by
  have g := Net.good_of_check hck
  have hNN : n.N = N := by unfold Net.N; omega
  have hlen : m.t.len = N := by rw [ht]
  have hL : ∀ r, m.t.L r = N := fun r => by rw [ht]
  have hZ : m.t.Z = n.begin := by rw [ht]
  obtain ⟨x, hx⟩ : ∃ x : EngM, x = ⟨⟨some ⟨G, 0, none⟩, N, gc, G, 0, fun i => ⟨m.A i, N, m.C i, m.RB i, m.RO i, n.begin i, ⟨some ⟨Tb i, 0, none⟩, Tb i, 0, N, fun _ => none, fun _ => 0, fun _ => 0, fun _ => 0, ⟨N, fun _ => 0, fun _ _ => 0⟩⟩⟩⟩, ⟨none, 0, 0, 0, 0, fun _ => noMail⟩⟩ := ⟨_, rfl⟩
  have heng : x.eng = ⟨n.begin, fun _ _ => false, fun _ _ _ => 0, []⟩ := by rw [hx]; rfl
  have hin : x.In W.heap.size W := by
    rw [hx]
    refine ⟨⟨fun _ => rfl, fun _ => hrt.lt, fun i hi => ?_, fun i hi => ?_, fun i hi => ?_, by show N ≤ _; unfold maxLen; omega⟩, ⟨fun h0 => absurd h0 (Nat.lt_irrefl _), fun h0 => absurd h0 (Nat.lt_irrefl _), fun i hi => absurd hi (Nat.not_lt_zero _), fun i hi => absurd hi (Nat.not_lt_zero _), fun i hi => absurd hi (Nat.not_lt_zero _), Nat.zero_le _, fun i hi => absurd hi (Nat.not_lt_zero _)⟩⟩
    · show W.cell? ⟨G, 0 + i * 2, none⟩ = _
      rw [Nat.zero_add, hrt.cell]; exact hr0 i hi
    · show W.cell? ⟨G, 0 + i * 2 + 1, none⟩ = _
      rw [Nat.zero_add, hrt.cell]; exact hr1 i hi
    · have hi' : i < N := hi
      have hii := hmi.ints (r := i) (by omega)
      rw [hL i, hZ] at hii
      refine ⟨hii, fun h0 => (hmi.addr i (by omega) (by rw [hL i]; exact h0)).2, ⟨fun _ => rfl, fun _ => (htb i hi').lt, fun r hr => ?_, fun r hr h0 => absurd h0 (Nat.lt_irrefl _), fun r hr c hc => absurd hc (Nat.not_lt_zero _), by show N ≤ _; unfold maxLen; omega, fun r hr => Nat.zero_le _⟩⟩
      show W.cell? ⟨Tb i, 0 + r, none⟩ = _
      rw [Nat.zero_add, (htb i hi').cell]; exact made_nil hr
  refine ⟨x, by rw [hx]; rfl, hin, EngM.of_right (N := N) ⟨hck, by rw [hx], fun i hi => by rw [hx], fun i hi => by rw [hx], fun i hi q hq => by rw [heng, hx]; rfl, by rw [hx]; exact Nat.zero_le _, ?_⟩ hN, heng, ?_⟩
  · rw [heng]
    have hb : n.State n.begin := n.begin_state hck
    exact ⟨hb, fun i k j _ _ _ ht => (absurd (show false = true from ht) (by decide)), Nat.zero_le _, fun m hm => absurd hm List.not_mem_nil⟩
  · rw [hx]
    exact ⟨fun _ => hG, fun i hi => ⟨fun _ => hf.rows i (by rw [hlen]; exact hi) (by rw [hL i]; exact Nat.lt_of_le_of_lt (Nat.zero_le _) hi), ⟨fun _ => hTb i hi, fun r hr h0 => absurd h0 (Nat.lt_irrefl _)⟩⟩, fun h0 => absurd h0 (Nat.lt_irrefl _), Nat.le_refl _⟩

/-- What NewOf answers. -/
def NewRef (n : Net) (w : World) (r : Ending) (w' : World) : Prop :=
  Below w.heap.size w w' ∧ ∃ m : EngM, r = .returned m.val ∧ m.In w'.heap.size w' ∧ m.err n = 0 ∧ m.eng = ⟨n.begin, fun _ _ => false, fun _ _ _ => 0, []⟩ ∧ m.From w.heap.size
theorem NoI.ans {w : World} {H : Nat} {n : NetM} {m : Mat} {N : Nat} {V : Value} {Tb : Nat → Nat} {W : World} (h : NoI w H n m N N V Tb W) (hN0 : 0 < N) (hN6 : N ≤ 6) (ht : m.t = ⟨N, fun _ => N, n.net.begin⟩) (hck : n.net.check = 0) (hN : n.net.nodes = (N : Int)) :
    NewRef n.net w (.returned (.agg #[V, .slice none 0 0])) ((W.setCell ⟨w.heap.size + 1, 0, none⟩ V).setCell ⟨w.heap.size + 1, 1, none⟩ (.slice none 0 0)) := by
  have hown := h.rtrs
  have hH := h.hi
  obtain ⟨g, cap, cur, rfl, hgk, hgb⟩ : ∃ g cap cur, V = .slice (some ⟨g, 0, none⟩) N cap ∧ Blk W g cur 59 ∧ H ≤ g := by
    obtain ⟨_, h2⟩ := id hown
    rcases h2 with ⟨_, e0⟩ | ⟨g', cap', cur, e1, hb', hgb, _⟩
    · omega
    · exact ⟨g', cap', cur, e1, hgb, hb'⟩
  have hcur : ∀ j, j < N * 2 → cur[j]? = (nrV m Tb N N)[j]? := fun j hj => by rw [← hgk.cell j]; exact hown.cellAt j hj
  have hTq : ∀ i, i < N → Tb i ≠ w.heap.size + 1 := fun i hi => by have := (h.tb i hi).2; omega
  have hmi := ((h.min.mono h.size).other (C := w.heap.size + 1) (i := 0) h.own (by omega) (.slice (some ⟨g, 0, none⟩) N cap)).other (C := w.heap.size + 1) (i := 1) h.own (by omega) (.slice none 0 0)
  obtain ⟨x, hx1, hx2, hx3, hx4, hx5⟩ := newof_eng (gc := cap) (lo := w.heap.size) ((hgk.other (show g ≠ w.heap.size + 1 by omega) 0 (.slice (some ⟨g, 0, none⟩) N cap)).other (show g ≠ w.heap.size + 1 by omega) 1 (.slice none 0 0)) (fun i hi => by rw [hcur _ (by omega)]; exact (nrV_get m Tb N N i hi).1) (fun i hi => by rw [hcur _ (by omega)]; exact (nrV_get m Tb N N i hi).2) (fun i hi => ((h.tb i hi).1.other (hTq i hi) _ _).other (hTq i hi) _ _) (by simpa using hmi) ht hck hN hN6 (h.own.mono (by omega)) (by omega) (fun i hi => by have := (h.tb i hi).2; omega)
  exact ⟨(h.below.setCell (p := ⟨w.heap.size + 1, 0, none⟩) (by show w.heap.size ≤ w.heap.size + 1; omega) _).setCell (p := ⟨w.heap.size + 1, 1, none⟩) (by show w.heap.size ≤ w.heap.size + 1; omega) _, x, by rw [EngM.val, hx1], hx2, hx3, hx4, hx5⟩

set_option maxHeartbeats 4000000 in
theorem newOf_any (n : NetM) (w : World) (hck : n.net.check = 0) :
    Calls Tryz.prog 11 #[n.val] w fun r w' => NewRef n.net w r w' := by
  obtain ⟨N, hN⟩ : ∃ N : Nat, n.nodes = N := ⟨n.nodes.toNat, by have := (Net.good_of_check hck).lo; have : n.net.nodes = n.nodes := rfl; omega⟩
  obtain ⟨hN0, hN6, hNN, hnn⟩ := nodes_six hck hN
  obtain ⟨W1, hW1⟩ : ∃ W1, W1 = ((w.alloc (.cells n.cells 27)).alloc (.cells #[.slice none 0 0, .slice none 0 0] 31)).alloc (.cells #[.slice none 0 0, .slice none 0 0] 31) := ⟨_, rfl⟩
  have hB1 : Below w.heap.size w W1 := by rw [hW1]; exact (((Below.refl _ w).alloc (Nat.le_refl _) _).alloc (by simp) _).alloc (by simp; omega) _
  have b0 : Blk W1 w.heap.size n.cells 27 := by rw [hW1]; exact ((Blk.new w _ _).alloc _).alloc _
  have b1 : Blk W1 (w.heap.size + 1) #[.slice none 0 0, .slice none 0 0] 31 := by rw [hW1]; exact (Blk.new' (by simp)).alloc _
  have b2 : Blk W1 (w.heap.size + 1 + 1) #[.slice none 0 0, .slice none 0 0] 31 := by rw [hW1]; exact Blk.new' (by simp)
  have hz1 : W1.heap.size = w.heap.size + 3 := by rw [hW1]; simp
  have hnc : n.cells = #[.int .i64 n.a.size, .slice n.a.B.ga n.a.B.t.len n.a.B.cap, .slice n.a.E.ga n.a.E.t.len n.a.E.cap, .int .i64 N, .slice n.la n.ln n.lc] := by simp only [NetM.cells, Mat.val, hN]
  obtain ⟨i2, hi2, hx0, hx1, hx2⟩ := info_parts Tryz.infoInts
  have Hmk : Hid (∀ u : World, (Instr.makeSlice 22 (.int .i64 (N : Int)) (.int .i64 (N : Int))).run Tryz.prog u = .ok (.slice (some ⟨u.heap.size, 0, none⟩) N N) (u.alloc (.cells (madeCells #[.slice none 0 0] N) 32))) := hide (fun u => by
    have h := run_make (P := Tryz.prog) u 22 32 i2 (.slice none 0 0) Tryz.underlying22 hi2 hx0 .i64 .i64 (N : Int) (N : Int) (by omega) (Int.le_refl _) (by rw [hx2]; omega) (by omega)
    simpa [hx1, Value.cells] using h)
  have HBe := hide (beginOf_any n W1 hck)
  have HB1 := hide hB1
  have Hb0 := hide b0
  have Hb1 := hide b1
  have Hb2 := hide b2
  have Hz1 := hide hz1
  have Hnc := hide hnc
  have Hck := hide hck
  have Hnn := hide hnn
  have HNN := hide hNN
  have y0 := b0.cell 0
  have y1 := b0.cell 1
  have y2 := b0.cell 2
  have y3 := b0.cell 3
  have y4 := b0.cell 4
  rw [hnc] at y0 y1 y2 y3 y4
  simp at y0 y1 y2 y3 y4
  simp only [NetM.val, hnc, Mat.val] at hW1 HBe ⊢
  rw [hW1] at HBe y0 y1 y2 y3 y4
  have HW1 := hide hW1
  clear hB1 b0 b1 b2 hz1 hnc hi2 hx0 hx1 hx2 hW1 hck hN hnn hNN
  go_enter Tryz.func11, Tryz.ntmps11
  go_wp2_with fail
  go_at_call 36
  refine HBe.out.mono ?_
  rw [← HW1.out]
  rintro r W2 ⟨⟨m, rfl, hm⟩, hb2⟩
  clear y0 y1 y2 y3 y4
  obtain ⟨ht, hmin, hown⟩ := hm
  rw [HNN.out] at ht
  rw [Hz1.out] at hown
  have hI0 : ∃ V Tb, NoI w W2.heap.size n m N 0 V Tb W2 := ⟨.slice none 0 0, fun _ => 0, HB1.out.trans (hb2.mono HB1.out.size), by have := hb2.size; have := Hz1.out; omega, Nat.le_refl _, Hb0.out.below hb2 Hb0.out.lt, Hb1.out.below hb2 Hb1.out.lt, Hb2.out.below hb2 Hb2.out.lt, hown, hmin, World.ownsRow_nil W2 _ _ 2, fun i hi => absurd hi (Nat.not_lt_zero _)⟩
  have hga := hmin.ga (by rw [ht]; exact hN0)
  have hlen : m.t.len = N := by rw [ht]
  have y3 := (Hb0.out.below hb2 Hb0.out.lt).cell 3
  rw [Hnc.out] at y3
  simp at y3
  have HI0 := hide hI0
  have Ht := hide ht
  have Hga := hide hga
  obtain ⟨gb, hgb⟩ : ∃ gb, gb = m.gb := ⟨_, rfl⟩
  obtain ⟨go, hgo⟩ : ∃ go, go = m.go := ⟨_, rfl⟩
  rw [← hgb, ← hgo] at hga
  have Hgb := hide hgb
  have Hgo := hide hgo
  obtain ⟨H, hH⟩ : ∃ H, H = W2.heap.size := ⟨_, rfl⟩
  rw [← hH] at HI0
  simp only [hga, hlen]
  clear hI0 hga hlen ht hmin hown hb2 HBe HB1 Hb0 Hb1 Hb2 hgb hgo hH
  go_wp2_with fail
  go_loopw [5] (fun q wr => ∃ k : Nat, k ≤ N ∧ q = .int .i64 k ∧ Hid (∃ V Tb, NoI w H n m N k V Tb wr)) (fun q _ => N - (intOf q).toNat)
  case atStart => exact ⟨0, Nat.zero_le _, rfl, HI0⟩
  case round =>
    obtain ⟨k, hk, rfl, HI⟩ := hrel
    obtain ⟨V, Tb, hC⟩ := HI.out
    clear HI HI0 y3
    have y3 := hC.bn.cell 3
    rw [Hnc.out] at y3
    simp at y3
    obtain ⟨a0, c0, rfl⟩ := own_form hC.rtrs
    by_cases hlt : k < N
    · have hki : (k : Int) < (N : Int) := by omega
      have HC := hide hC
      clear hC
      go_wp2_with fail
      clear y3
      refine wp_region_done (fun d W => NoG w H n m N k (.slice a0 k c0) wr (d 11) (d 13) W) (fun d => noE [.pointer (some ⟨w.heap.size + 1 + 1, 0, none⟩), .slice a0 k c0, .slice (some ⟨gb, go, none⟩) N m.cap, .int .i64 (k : Int), .pointer (some ⟨gb, go + k, none⟩), .slice (m.A k) N (m.C k), .pointer (some ⟨w.heap.size, 3, none⟩), .int .i64 (N : Int), undef, undef, undef, undef, .pointer (some ⟨w.heap.size + 1 + 1, 0, none⟩), undef] H m N k (nrV m Tb N k) wr (d 11) (d 13)) (by kernel_rfl) (by kernel_rfl) (by kernel_rfl) (NoG.start ⟨rfl, rfl, rfl, Nat.le_refl _, fun _ _ => rfl⟩) ⟨?_, ?_, ?_, ?_, ?_, ?_, ?_, ?_, ?_, ?_, ?_, ?_, ?_, ?_, trivial⟩ ?_
      rotate_right
      · intro d t W hall hG _
        simp only [fill, Act.put, List.setIfInBounds_toArray, List.set_cons_zero, List.set_cons_succ]
        have HN9 := hide (hG.fin (hall 13 (by decide)))
        clear hG hall
        go_wp2
        go_roundw
        case rel =>
          first
          | exact ⟨k + 1, by omega, by go_num, HN9⟩
          | ((repeat apply Exists.intro); refine ⟨?_, rfl⟩; exact ⟨k + 1, by omega, by go_num, HN9⟩)
        case measure => simp [intOf]; omega
      all_goals intro d t W hs ho hd hw hG hp K hK
      all_goals simp only [fill, Act.put, List.setIfInBounds_toArray, List.set_cons_zero, List.set_cons_succ] at hK ⊢
      · rw [if_pos (by rfl)]
        go_simp
        exact hK _ _ hG (noE_put (by decide) (by decide) (by decide) (by decide) (by decide) rfl) (fun j _ _ h => h)
      · have e0 := noE_get (hp 0 (hw 0 (by decide))) (by decide) (by decide) (by decide) (by decide) (by decide) rfl
        have ha := not_yet (F := 15) (S := 11) hs hd (by kernel_rfl)
        have hold := hG.old ha
        have cq := (HC.out.keep hold).be.cell 0
        simp at cq
        simp only [e0] at hK ⊢
        rw [if_pos (by rfl)]
        go_simp
        exact hK _ _ hG (noE_put (by decide) (by decide) (by decide) (by decide) (by decide) rfl) (fun j _ _ h => h)
      · rw [if_pos (by rfl)]
        go_simp
        exact hK _ _ hG (noE_put (by decide) (by decide) (by decide) (by decide) (by decide) rfl) (fun j _ _ h => h)
      · rw [if_pos (by rfl)]
        go_simp
        exact hK _ _ hG (noE_put (by decide) (by decide) (by decide) (by decide) (by decide) rfl) (fun j _ _ h => h)
      · have e2 := noE_get (hp 2 (hw 2 (by decide))) (by decide) (by decide) (by decide) (by decide) (by decide) rfl
        have e3 := noE_get (hp 3 (hw 3 (by decide))) (by decide) (by decide) (by decide) (by decide) (by decide) rfl
        simp only [e2, e3] at hK ⊢
        rw [if_pos (by rfl)]
        go_simp
        exact hK _ _ hG (noE_put (by decide) (by decide) (by decide) (by decide) (by decide) rfl) (fun j _ _ h => h)
      · have e4 := noE_get (hp 4 (hw 4 (by decide))) (by decide) (by decide) (by decide) (by decide) (by decide) rfl
        have ha := not_yet (F := 15) (S := 11) hs hd (by kernel_rfl)
        have hold := hG.old ha
        have cq := (HC.out.keep hold).min.row k (by rw [Ht.out]; exact hlt)
        rw [← Hgb.out, ← Hgo.out, show m.t.L k = N by rw [Ht.out]] at cq
        simp only [e4] at hK ⊢
        rw [if_pos (by rfl)]
        go_simp
        exact hK _ _ hG (noE_put (by decide) (by decide) (by decide) (by decide) (by decide) rfl) (fun j _ _ h => h)
      · rw [if_pos (by rfl)]
        go_simp
        exact hK _ _ hG (noE_put (by decide) (by decide) (by decide) (by decide) (by decide) rfl) (fun j _ _ h => h)
      · have e6 := noE_get (hp 6 (hw 6 (by decide))) (by decide) (by decide) (by decide) (by decide) (by decide) rfl
        have ha := not_yet (F := 15) (S := 11) hs hd (by kernel_rfl)
        have hold := hG.old ha
        have cq := (HC.out.keep hold).bn.cell 3
        rw [Hnc.out] at cq
        simp at cq
        simp only [e6] at hK ⊢
        rw [if_pos (by rfl)]
        go_simp
        exact hK _ _ hG (noE_put (by decide) (by decide) (by decide) (by decide) (by decide) rfl) (fun j _ _ h => h)
      · have ha := not_yet (F := 15) (S := 11) hs hd (by kernel_rfl)
        have hold := hG.old ha
        have hS := not_yet (F := 15) (S := 13) hs hd (by kernel_rfl)
        have e7 := noE_get (hp 7 (hw 7 (by decide))) (by decide) (by decide) (by decide) (by decide) (by decide) rfl
        have h2 : NoG w H n m N k (.slice a0 k c0) wr false false W := by have h3 := hG; rw [ha, hS] at h3; exact h3
        simp only [e7] at hK ⊢
        rw [if_pos (by rfl)]
        have hmk := Hmk.out W
        go_simp
        have hBn : Below W.heap.size W (W.alloc (.cells (madeCells #[.slice none 0 0] N) 32)) := (Below.refl _ W).alloc (Nat.le_refl _) _
        exact hK _ _ (by show NoG w H n m N k (.slice a0 k c0) wr (d 11) (d 13) _; rw [ha, hS]; exact h2.keep hBn) (noE_8.2 (fun _ => ⟨W.heap.size, rfl, hold.size, Blk.new W _ _⟩)) (fun j _ _ h => noE_keep hBn h)
      · have ha := not_yet (F := 15) (S := 11) hs hd (by kernel_rfl)
        have hold := hG.old ha
        have e5 := noE_get (hp 5 (hw 5 (by decide))) (by decide) (by decide) (by decide) (by decide) (by decide) rfl
        obtain ⟨T, e8, hT1, hT⟩ := noE_8.1 (hp 8 (hw 8 (by decide))) ha
        simp only [e5] at hK ⊢
        simp only [e8] at hK ⊢
        rw [if_pos (by rfl)]
        go_simp
        exact hK _ _ hG (noE_9.2 (fun _ => ⟨T, rfl, hT1, hT⟩)) (fun j _ _ h => h)
      · have ha := not_yet (F := 15) (S := 11) hs hd (by kernel_rfl)
        have hold := hG.old ha
        have hS := not_yet (F := 15) (S := 13) hs hd (by kernel_rfl)
        obtain ⟨T, e9, hT1, hT⟩ := noE_9.1 (hp 9 (hw 9 (by decide))) ha
        have h2 : NoG w H n m N k (.slice a0 k c0) wr false false W := by have h3 := hG; rw [ha, hS] at h3; exact h3
        simp only [e9] at hK ⊢
        rw [if_pos (by rfl)]
        go_simp
        have hBn : Below W.heap.size W (W.alloc (.cells #[.slice (m.A k) N (m.C k), .slice (some ⟨T, 0, none⟩) N N] 59)) := (Below.refl _ W).alloc (Nat.le_refl _) _
        exact hK _ _ (by show NoG w H n m N k (.slice a0 k c0) wr (d 11) (d 13) _; rw [ha, hS]; exact h2.keep hBn) (noE_10.2 (fun _ => ⟨W.heap.size, T, rfl, Blk.new W _ _, hT1, hT.below hBn hT.lt⟩)) (fun j _ _ h => noE_keep hBn h)
      · have hS := not_yet (F := 15) (S := 13) hs hd (by kernel_rfl)
        have e1 := noE_get (hp 1 (hw 1 (by decide))) (by decide) (by decide) (by decide) (by decide) (by decide) rfl
        obtain ⟨g8, T, e10, hk8, hT1, hT⟩ := noE_10.1 (hp 10 (hw 10 (by decide))) hd
        have h2 : NoG w H n m N k (.slice a0 k c0) wr false false W := by have h3 := hG; rw [hd, hS] at h3; exact h3
        obtain ⟨g9, c9, W9, hrun, hG9, ho9, hT9⟩ := h2.append HC.out (by omega) hk8 hT 28
        simp only [e1] at hK ⊢
        simp only [e10] at hK ⊢
        rw [if_pos (by rfl)]
        refine wp_append_run (by rfl) _ _ 28 (by rfl) _ _ (by rfl) (by rfl) _ W9 hrun ?_
        refine hK _ W9 (by show NoG w H n m N k (.slice a0 k c0) wr (updB d 11 11) (d 13) W9; rw [hS, show updB d 11 11 = true by simp [updB]]; exact hG9) (noE_11.2 (fun _ => ⟨g9, c9, T, rfl, ho9, hT1, hT9⟩)) (fun jj hj hdj h => ?_)
        have h' : noE [.pointer (some ⟨w.heap.size + 1 + 1, 0, none⟩), .slice a0 k c0, .slice (some ⟨gb, go, none⟩) N m.cap, .int .i64 (k : Int), .pointer (some ⟨gb, go + k, none⟩), .slice (m.A k) N (m.C k), .pointer (some ⟨w.heap.size, 3, none⟩), .int .i64 (N : Int), undef, undef, undef, undef, .pointer (some ⟨w.heap.size + 1 + 1, 0, none⟩), undef] H m N k (nrV m Tb N k) wr false false jj (t jj) W := by have h2 := h; rw [hd, hS] at h2; exact h2
        show noE [.pointer (some ⟨w.heap.size + 1 + 1, 0, none⟩), .slice a0 k c0, .slice (some ⟨gb, go, none⟩) N m.cap, .int .i64 (k : Int), .pointer (some ⟨gb, go + k, none⟩), .slice (m.A k) N (m.C k), .pointer (some ⟨w.heap.size, 3, none⟩), .int .i64 (N : Int), undef, undef, undef, undef, .pointer (some ⟨w.heap.size + 1 + 1, 0, none⟩), undef] H m N k (nrV m Tb N k) wr (updB d 11 11) (updB d 11 13) jj (t jj) W9
        rw [show updB d 11 11 = true by simp [updB], show updB d 11 13 = false from hS]
        exact noE_a W9 hj h'
      · rw [if_pos (by rfl)]
        go_simp
        exact hK _ _ hG (noE_put (by decide) (by decide) (by decide) (by decide) (by decide) rfl) (fun j _ _ h => h)
      · have h9 := done_back (F := 15) hs ho hw (S := 11) (by kernel_rfl) (by decide)
        obtain ⟨g9, c9, T, e11, ho9, hT1, hT9⟩ := noE_11.1 (hp 11 (hw 11 (by decide))) hd
        have e12 := noE_get (hp 12 (hw 12 (by decide))) (by decide) (by decide) (by decide) (by decide) (by decide) rfl
        have h2 : NoG w H n m N k (.slice a0 k c0) wr true false W := by have h3 := hG; rw [h9, hd] at h3; exact h3
        have hh := h2.head HC.out
        have cq := hh.cell 0
        have fq := hh.frozen 0
        simp at cq
        have HN := hide (h2.store HC.out ho9 hT1 hT9)
        have HNE : Hid (∀ jj, noE [.pointer (some ⟨w.heap.size + 1 + 1, 0, none⟩), .slice a0 k c0, .slice (some ⟨gb, go, none⟩) N m.cap, .int .i64 (k : Int), .pointer (some ⟨gb, go + k, none⟩), .slice (m.A k) N (m.C k), .pointer (some ⟨w.heap.size, 3, none⟩), .int .i64 (N : Int), undef, undef, undef, undef, .pointer (some ⟨w.heap.size + 1 + 1, 0, none⟩), undef] H m N k (nrV m Tb N k) wr (d 11) (d 13) jj (t jj) W → noE [.pointer (some ⟨w.heap.size + 1 + 1, 0, none⟩), .slice a0 k c0, .slice (some ⟨gb, go, none⟩) N m.cap, .int .i64 (k : Int), .pointer (some ⟨gb, go + k, none⟩), .slice (m.A k) N (m.C k), .pointer (some ⟨w.heap.size, 3, none⟩), .int .i64 (N : Int), undef, undef, undef, undef, .pointer (some ⟨w.heap.size + 1 + 1, 0, none⟩), undef] H m N k (nrV m Tb N k) wr true true jj (t jj) (W.setCell ⟨w.heap.size + 1 + 1, 0, none⟩ (.slice (some ⟨g9, 0, none⟩) (k + 1) c9))) := hide (fun jj h => by rw [h9, hd] at h; exact noE_s _ h)
        simp only [e12] at hK ⊢
        simp only [e11] at hK ⊢
        rw [if_pos (by rfl)]
        clear hh ho9 hT1 hT9
        go_simp
        refine hK undef _ (by show NoG w H n m N k (.slice a0 k c0) wr (d 11) (updB d 13 13) _; rw [h9, show updB d 13 13 = true by simp [updB]]; exact HN.out) noE_13 (fun jj hj hdj h => ?_)
        show noE [.pointer (some ⟨w.heap.size + 1 + 1, 0, none⟩), .slice a0 k c0, .slice (some ⟨gb, go, none⟩) N m.cap, .int .i64 (k : Int), .pointer (some ⟨gb, go + k, none⟩), .slice (m.A k) N (m.C k), .pointer (some ⟨w.heap.size, 3, none⟩), .int .i64 (N : Int), undef, undef, undef, undef, .pointer (some ⟨w.heap.size + 1 + 1, 0, none⟩), undef] H m N k (nrV m Tb N k) wr (d 11) (updB d 13 13) jj (t jj) _
        rw [h9, show updB d 13 13 = true by simp [updB]]
        exact HNE.out jj h
    · have hkn : k = N := by omega
      subst hkn
      have HF := hide (hC.ans hN0 hN6 Ht.out Hck.out Hnn.out)
      have x0 := hC.be.cell 0
      have x1 := hC.be.cell 1
      have s0 := hC.br.cell 0
      have s1 := hC.br.cell 1
      have f0 := hC.br.frozen 0
      have f1 := hC.br.frozen 1
      have c7 := (hC.br.set 0 (.slice a0 k c0)).set 1 (.slice none 0 0)
      have e0 := c7.cell 0
      have e1 := c7.cell 1
      simp at x0 x1 s0 s1 e0 e1
      clear hC c7
      go_wp2
      exact bodyPost_ret (v := .agg #[.slice a0 k c0, .slice none 0 0]) (by simp [results, Tryz.results11, go_sem, e0, e1]) rfl HF.out

end Go.Proofs.YtjhkadffaephmabGreat
