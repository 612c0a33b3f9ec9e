/-
  Our own texts, bundled: a claim holds few files.
-/
import Derived.Test.YtjhkadffaephmabGreatCutEnginePlaysBH
import Derived.Test.YtjhkadffaephmabGreatCutEnginePlaysAJ
import Derived.Test.YtjhkadffaephmabGreatCutEnginePlaysBE
/-
 engine.atMail.
-/
namespace Go.Proofs.YtjhkadffaephmabGreat
set_option maxRecDepth 100000
open Go.RowKit

set_option maxHeartbeats 400000 in
theorem atMail_any (n : NetM) (v : EvM) (base P N : Nat) (e : Eng) (Bv : Value) (y : Lay) (w : World) (h : n.In base w) (hck : n.net.check = 0) (hN : n.nodes = N) (hL : Live base P N e Bv y w) (hfit : e.Fit n.net) (_hv : v.In base w) (hk : v.kind = 2 ∨ v.kind = 3 ∨ v.kind = 4 ∨ v.kind = 5) :
  Calls Tryz.prog 46 #[n.val, .pointer (some ⟨P, 0, none⟩), v.val] w fun r w' => EvAns base P N (e.stepErr n.net v.ev) (if e.stepErr n.net v.ev = 0 then e.step n.net v.ev else e) w r w' := by
 obtain ⟨hN0, hN6, hNN, hnn⟩ := nodes_six hck hN
 obtain ⟨kind, loc, b, c, ra, rl, rc, rb, ro, f⟩ := v
 have hbw : base ≤ w.heap.size := Nat.le_of_lt (Nat.lt_of_le_of_lt hL.lp hL.head.lt)
 have hcells : n.cells = #[.int .i64 n.a.size, .slice n.a.B.ga n.a.B.t.len n.a.B.cap, .slice n.a.E.ga n.a.E.t.len n.a.E.cap, .int .i64 N, .slice n.la n.ln n.lc] := by simp only [NetM.cells, Mat.val, hN]
 obtain ⟨W1, hW1⟩ : ∃ W1, W1 = (w.alloc (.cells n.cells 27)).alloc (.cells #[.int .i64 kind, .int .i64 loc, .int .i64 b, .int .i64 c, .slice ra rl rc] 34) := ⟨_, rfl⟩
 have hB1 : Below w.heap.size w W1 := by rw [hW1]; exact ((Below.refl _ w).alloc (Nat.le_refl _) _).alloc (by simp) _
 have hBb := hB1.mono hbw
 have hL1 := hL.below hB1
 have h1 := h.below hBb (Nat.le_refl _)
 have b3 : Blk W1 w.heap.size n.cells 27 := by rw [hW1]; exact (Blk.new w _ _).alloc _
 have b5 : Blk W1 (w.heap.size + 1) #[.int .i64 kind, .int .i64 loc, .int .i64 b, .int .i64 c, .slice ra rl rc] 34 := by rw [hW1]; exact Blk.new' (by simp)
 obtain ⟨ba, bc, hbl⟩ : ∃ ba bc, Bv = .slice ba e.bag.length bc := by
  rcases Go.Joins.ownsRow_forms hL.bag with ⟨e0, e1⟩ | ⟨g, cap, e1⟩
  ·exact ⟨none, 0, by rw [e0, e1]⟩
  ·exact ⟨_, _, e1⟩
 have HG1 : Hid (HapG base P N n ⟨kind, loc, b, c, ra, rl, rc, rb, ro, f⟩ w.heap.size (w.heap.size + 1) e Bv y W1 W1) := hide ⟨hL1, b3, b5, Below.refl _ _⟩
 have HBW : Hid (∀ W, Below W1.heap.size W1 W → Below base w W ∧ n.In base W) := hide (fun W hb => ⟨hBb.trans (hb.mono (Nat.le_trans hbw hB1.size)), h.below (hBb.trans (hb.mono (Nat.le_trans hbw hB1.size))) (Nat.le_refl _)⟩)
 have hlen120 : e.bag.length ≤ 120 := hfit.many
 have Hfit := hide hfit
 obtain ⟨len, hlen⟩ : ∃ len, len = e.bag.length := ⟨_, rfl⟩
 rw [← hlen] at hbl hlen120
 have Hbl := hide hbl
 have Hlen := hide hlen
 have HS := hide (fun W => sbelow_any loc (len : Int) W)
 obtain ⟨bb, hbb⟩ : ∃ bb, bb = (decide (0 ≤ loc) && decide (loc < (len : Int))) := ⟨_, rfl⟩
 rw [← hbb] at HS
 have Hbb := hide hbb
 rw [hcells] at hW1
 have HW1 := hide hW1
 have HN := hide hN
 have Hcells := hide hcells
 obtain ⟨er, her⟩ : ∃ er, er = e.stepErr n.net (EvM.ev ⟨kind, loc, b, c, ra, rl, rc, rb, ro, f⟩) := ⟨_, rfl⟩
 obtain ⟨e2, he2⟩ : ∃ e2, e2 = (if e.stepErr n.net (EvM.ev ⟨kind, loc, b, c, ra, rl, rc, rb, ro, f⟩) = 0 then e.step n.net (EvM.ev ⟨kind, loc, b, c, ra, rl, rc, rb, ro, f⟩) else e) := ⟨_, rfl⟩
 rw [← he2, ← her]
 have Her := hide her
 have He2 := hide he2
 clear her he2
 rw [NetM.val, EvM.val, EvM.cells, hcells]
 have hk' : kind = 2 ∨ kind = 3 ∨ kind = 4 ∨ kind = 5 := hk
 clear h hL _hv hk hbw hcells hB1 hBb hL1 h1 b3 b5 hW1 hfit hN hbl hlen hbb
 go_enter Tryz.func46, Tryz.ntmps46
 go_wp2
 rw [← HW1.out]
 refine wp_region_only (fun W => HapG base P N n ⟨kind, loc, b, c, ra, rl, rc, rb, ro, f⟩ w.heap.size (w.heap.size + 1) e Bv y W1 W) (valsE [.pointer (some ⟨w.heap.size + 1, 1, none⟩), .int .i64 loc, .pointer (some ⟨P, 0, none⟩), .pointer (some ⟨P, 0, none⟩), .pointer (some ⟨P, 1, none⟩), .slice ba len bc, .int .i64 (len : Int), .bool bb, .bool (!bb)]) (by kernel_rfl) (by kernel_rfl) (by kernel_rfl) (HG1.out.keep ⟨rfl, rfl, rfl, Nat.le_refl _, fun _ _ => rfl⟩) ⟨?_, ?_, ?_, ?_, ?_, ?_, ?_, ?_, ?_, trivial⟩ ?_
 rotate_right
 ·intro t W hG hE
  have e8 := valsE_get (hE 8 (by decide)) rfl
  have HG' := hide hG
  clear hE hG
  simp only [fill, Act.put, List.setIfInBounds_toArray, List.set_cons_zero, List.set_cons_succ, e8]
  clear e8
  have hBW := HBW.out W HG'.out.below
  have c0 := HG'.out.ev.cell 0
  have c1 := HG'.out.ev.cell 1
  have c2 := HG'.out.ev.cell 2
  have c3 := HG'.out.ev.cell 3
  have x0 := HG'.out.net.cell 0
  have x1 := HG'.out.net.cell 1
  have x2 := HG'.out.net.cell 2
  have x3 := HG'.out.net.cell 3
  have x4 := HG'.out.net.cell 4
  simp only [Hcells.out] at x0 x1 x2 x3 x4
  simp only [EvM.cells] at c0 c1 c2 c3
  simp at x0 x1 x2 x3 x4 c0 c1 c2 c3
  have HBw := hide hBW.1
  have HnW := hide hBW.2
  have HLW := hide HG'.out.live
  clear hBW HG' HG1 HBW HS
  cases bb with
  | false =>
   have hl : loc < 0 ∨ (len : Int) ≤ loc := by have := Hbb.out; simp at this; omega
   have hst : e.stepErr n.net (EvM.ev ⟨kind, loc, b, c, ra, rl, rc, rb, ro, f⟩) = 5 := by
    have hle := Hlen.out
    unfold Eng.stepErr EvM.ev
    simp only []
    rw [if_neg (by omega), if_pos (by omega), if_pos (by omega)]
   have H2 : Hid (EvAns base P N er e2 w (.returned (.int .i64 5)) W) := hide ⟨by rw [Her.out, hst], ⟨Bv, y, by rw [He2.out, hst, if_neg (by decide)]; exact HLW.out⟩, HBw.out⟩
   clear hst hl hk' x0 x1 x2 x3 x4 c0 c1 c2 c3 hnn hNN
   go_wp2
   first
   | exact H2.out
   | (go_ret; exact H2.out)
  | true =>
   have hl : 0 ≤ loc ∧ loc < (len : Int) := by have := Hbb.out; simp at this; omega
   obtain ⟨i, rfl⟩ : ∃ i : Nat, loc = i := ⟨loc.toNat, by omega⟩
   have hi : i < e.bag.length := by have := Hlen.out; omega
   have hle := Hlen.out
   rcases hk' with rfl | rfl | rfl | rfl
   ·have hst : e.stepErr n.net (EvM.ev ⟨2, (i : Int), b, c, ra, rl, rc, rb, ro, f⟩) = 0 := by
     unfold Eng.stepErr EvM.ev
     simp only []
     rw [if_neg (by omega), if_pos (by omega), if_neg (by omega)]
     rfl
    have hsp : e.step n.net (EvM.ev ⟨2, (i : Int), b, c, ra, rl, rc, rb, ro, f⟩) = e.deliver n.net i := by
     unfold Eng.step EvM.ev
     rfl
    have HC := hide (deliver_any n base P N i e Bv y W HnW.out hck HN.out HLW.out Hfit.out hi)
    rw [NetM.val, Hcells.out] at HC
    have her' : er = 0 := Her.out.trans hst
    have he2' : e2 = e.deliver n.net i := by rw [He2.out, hst, hsp, if_pos rfl]
    clear hst hsp hl hnn hNN HnW Hfit hle Her He2
    have Her := hide her'
    have He2 := hide he2'
    clear her' he2'
    go_wp2_with fail
    go_at_call 69
    refine HC.out.mono ?_
    rintro r w3 ⟨rfl, hl3, hb3⟩
    have H2 : Hid (EvAns base P N er e2 w (.returned (.int .i64 0)) w3) := hide ⟨by rw [Her.out], by rw [He2.out]; exact hl3, HBw.out.trans hb3⟩
    clear hl3 hb3 HC HLW HBw
    go_wp2
    first
    | exact H2.out
    | (go_ret; exact H2.out)
   ·have hst : e.stepErr n.net (EvM.ev ⟨3, (i : Int), b, c, ra, rl, rc, rb, ro, f⟩) = if 120 ≤ e.bag.length then 2 else 0 := by
     unfold Eng.stepErr EvM.ev
     simp only []
     rw [if_neg (by omega), if_pos (by omega), if_neg (by omega)]
     rfl
    have hsp : e.step n.net (EvM.ev ⟨3, (i : Int), b, c, ra, rl, rc, rb, ro, f⟩) = e.twice i := by
     unfold Eng.step EvM.ev
     rfl
    have HC := hide (twice_all i HLW.out hi (by omega))
    have he : (if ((if 120 ≤ e.bag.length then 2 else 0 : Int)) = 0 then e.twice i else e) = (if 120 ≤ e.bag.length then e else e.twice i) := by
     by_cases hq : 120 ≤ e.bag.length
     ·rw [if_pos hq, if_pos hq]; rfl
     ·rw [if_neg hq, if_neg hq]; rfl
    have her' : er = if 120 ≤ e.bag.length then 2 else 0 := Her.out.trans hst
    have he2' : e2 = (if 120 ≤ e.bag.length then e else e.twice i) := by rw [He2.out, hst, hsp]; exact he
    rw [← her', ← he2'] at HC
    clear he hst hsp hl hnn hNN HLW HnW Hfit hle her' he2' Her He2
    go_wp2_with fail
    go_at_call 75
    refine HC.out.mono ?_
    rintro r w3 ⟨rfl, hl3, hb3⟩
    have H2 : Hid (EvAns base P N er e2 w (.returned (.int .i64 er)) w3) := hide ⟨rfl, hl3, HBw.out.trans hb3⟩
    clear hl3 hb3 HC HBw
    go_wp2
    first
    | exact H2.out
    | (go_ret; exact H2.out)
   ·have hst : e.stepErr n.net (EvM.ev ⟨4, (i : Int), b, c, ra, rl, rc, rb, ro, f⟩) = 0 := by
     unfold Eng.stepErr EvM.ev
     simp only []
     rw [if_neg (by omega), if_pos (by omega), if_neg (by omega)]
     rfl
    have hsp : e.step n.net (EvM.ev ⟨4, (i : Int), b, c, ra, rl, rc, rb, ro, f⟩) = e.without i := by
     unfold Eng.step EvM.ev
     rfl
    have HC := hide (lose_any base P N i e Bv y W HLW.out hi (by omega))
    have her' : er = 0 := Her.out.trans hst
    have he2' : e2 = e.without i := by rw [He2.out, hst, hsp, if_pos rfl]
    clear hst hsp hl hnn hNN HnW Hfit hle Her He2
    have Her := hide her'
    have He2 := hide he2'
    clear her' he2'
    go_wp2_with fail
    go_at_call 76
    refine HC.out.mono ?_
    rintro r w3 ⟨rfl, ⟨B3, hl3⟩, hb3, _⟩
    have H2 : Hid (EvAns base P N er e2 w (.returned (.int .i64 0)) w3) := hide ⟨by rw [Her.out], by rw [He2.out]; exact ⟨B3, y, hl3⟩, HBw.out.trans hb3⟩
    clear hl3 hb3 HC HLW HBw
    go_wp2
    first
    | exact H2.out
    | (go_ret; exact H2.out)
   ·have hst : e.stepErr n.net (EvM.ev ⟨5, (i : Int), b, c, ra, rl, rc, rb, ro, f⟩) = if (b < 0 ∨ ((e.bag.getD i noMail).b.length : Int) ≤ b) ∨ (c < 1 ∨ 255 < c) then 3 else 0 := by
     unfold Eng.stepErr EvM.ev
     simp only []
     rw [if_neg (by omega), if_pos (by omega), if_neg (by omega)]
     rfl
    have hsp : e.step n.net (EvM.ev ⟨5, (i : Int), b, c, ra, rl, rc, rb, ro, f⟩) = e.spoil i b.toNat (u8 c) := by
     unfold Eng.step EvM.ev
     rfl
    have HC := hide (spoil_any i b c HLW.out hi (by omega) (Hfit.out.mail _ (getD_mem hi)).2.2)
    have he : (if ((if (b < 0 ∨ ((e.bag.getD i noMail).b.length : Int) ≤ b) ∨ (c < 1 ∨ 255 < c) then 3 else 0 : Int)) = 0 then e.spoil i b.toNat (u8 c) else e) = (if (b < 0 ∨ ((e.bag.getD i noMail).b.length : Int) ≤ b) ∨ (c < 1 ∨ 255 < c) then e else e.spoil i b.toNat (u8 c)) := by
     by_cases hq : (b < 0 ∨ ((e.bag.getD i noMail).b.length : Int) ≤ b) ∨ (c < 1 ∨ 255 < c)
     ·rw [if_pos hq, if_pos hq]; rfl
     ·rw [if_neg hq, if_neg hq]; rfl
    have her' : er = if (b < 0 ∨ ((e.bag.getD i noMail).b.length : Int) ≤ b) ∨ (c < 1 ∨ 255 < c) then 3 else 0 := Her.out.trans hst
    have he2' : e2 = (if (b < 0 ∨ ((e.bag.getD i noMail).b.length : Int) ≤ b) ∨ (c < 1 ∨ 255 < c) then e else e.spoil i b.toNat (u8 c)) := by rw [He2.out, hst, hsp]; exact he
    rw [← her', ← he2'] at HC
    clear he hst hsp hl hnn hNN HLW HnW Hfit hle her' he2' Her He2
    go_wp2_with fail
    go_at_call 77
    refine HC.out.mono ?_
    rintro r w3 ⟨rfl, hl3, hb3⟩
    have H2 : Hid (EvAns base P N er e2 w (.returned (.int .i64 er)) w3) := hide ⟨rfl, hl3, HBw.out.trans hb3⟩
    clear hl3 hb3 HC HBw
    go_wp2
    first
    | exact H2.out
    | (go_ret; exact H2.out)
 all_goals intro t W hG hp K hK
 all_goals simp only [fill, Act.put, List.setIfInBounds_toArray, List.set_cons_zero, List.set_cons_succ] at hK ⊢
 ·rw [if_pos (by rfl)]
  go_simp
  exact hK _ _ hG rfl (fun _ _ _ h => h)
 ·have e0 := valsE_get (hp 0 (by decide)) rfl
  have c1 := hG.ev.cell 1
  simp [EvM.cells] at c1
  simp only [e0] at hK ⊢
  rw [if_pos (by rfl)]
  go_simp
  exact hK _ _ hG rfl (fun _ _ _ h => h)
 ·rw [if_pos (by rfl)]
  go_simp
  exact hK _ _ hG rfl (fun _ _ _ h => h)
 ·have e2 := valsE_get (hp 2 (by decide)) rfl
  simp only [e2] at hK ⊢
  rw [if_pos (by rfl)]
  go_simp
  exact hK _ _ hG rfl (fun _ _ _ h => h)
 ·have e3 := valsE_get (hp 3 (by decide)) rfl
  simp only [e3] at hK ⊢
  rw [if_pos (by rfl)]
  go_simp
  exact hK _ _ hG rfl (fun _ _ _ h => h)
 ·have e4 := valsE_get (hp 4 (by decide)) rfl
  have p1 := hG.live.head.cell 1
  simp at p1
  rw [Hbl.out] at p1
  simp only [e4] at hK ⊢
  rw [if_pos (by rfl)]
  go_simp
  exact hK _ _ hG rfl (fun _ _ _ h => h)
 ·have e5 := valsE_get (hp 5 (by decide)) rfl
  simp only [e5] at hK ⊢
  rw [if_pos (by rfl)]
  go_simp
  exact hK _ _ hG rfl (fun _ _ _ h => h)
 ·have e1 := valsE_get (hp 1 (by decide)) rfl
  have e6 := valsE_get (hp 6 (by decide)) rfl
  simp only [e1, e6] at hK ⊢
  rw [if_pos (by rfl)]
  go_simp
  go_at_call 62
  refine (HS.out _).mono ?_
  rintro r w2 ⟨rfl, rfl⟩
  go_simp
  exact hK _ _ hG rfl (fun _ _ _ h => h)
 ·have e7 := valsE_get (hp 7 (by decide)) rfl
  simp only [e7] at hK ⊢
  rw [if_pos (by rfl)]
  go_simp
  exact hK _ _ hG rfl (fun _ _ _ h => h)

end Go.Proofs.YtjhkadffaephmabGreat

/-
  engine.happen.
-/
namespace Go.Proofs.YtjhkadffaephmabGreat
set_option maxRecDepth 100000
open Go.RowKit

set_option maxHeartbeats 400000 in
theorem happen_any (n : NetM) (v : EvM) (base P N : Nat) (e : Eng) (Bv : Value) (y : Lay) (w : World) (h : n.In base w) (hck : n.net.check = 0) (hN : n.nodes = N) (hL : Live base P N e Bv y w) (hfit : e.Fit n.net) (hv : v.In base w) :
    Calls Tryz.prog 19 #[n.val, .pointer (some ⟨P, 0, none⟩), v.val] w fun r w' => EvAns base P N (e.stepErr n.net v.ev) (if e.stepErr n.net v.ev = 0 then e.step n.net v.ev else e) w r w' := by
  obtain ⟨hN0, hN6, hNN, hnn⟩ := nodes_six hck hN
  obtain ⟨kind, loc, b, c, ra, rl, rc, rb, ro, f⟩ := v
  have hbw : base ≤ w.heap.size := Nat.le_of_lt (Nat.lt_of_le_of_lt hL.lp hL.head.lt)
  have hcells : n.cells = #[.int .i64 n.a.size, .slice n.a.B.ga n.a.B.t.len n.a.B.cap, .slice n.a.E.ga n.a.E.t.len n.a.E.cap, .int .i64 N, .slice n.la n.ln n.lc] := by simp only [NetM.cells, Mat.val, hN]
  obtain ⟨W1, hW1⟩ : ∃ W1, W1 = (w.alloc (.cells n.cells 27)).alloc (.cells #[.int .i64 kind, .int .i64 loc, .int .i64 b, .int .i64 c, .slice ra rl rc] 34) := ⟨_, rfl⟩
  have hB1 : Below w.heap.size w W1 := by rw [hW1]; exact ((Below.refl _ w).alloc (Nat.le_refl _) _).alloc (by simp) _
  have hBb := hB1.mono hbw
  have hL1 := hL.below hB1
  have h1 := h.below hBb (Nat.le_refl _)
  have hv1 := (hv.below hBb (Nat.le_refl _)).mono (Nat.le_trans hbw hB1.size)
  have b3 : Blk W1 w.heap.size n.cells 27 := by rw [hW1]; exact (Blk.new w _ _).alloc _
  have b5 : Blk W1 (w.heap.size + 1) #[.int .i64 kind, .int .i64 loc, .int .i64 b, .int .i64 c, .slice ra rl rc] 34 := by rw [hW1]; exact Blk.new' (by simp)
  have HnA := hide (fun hk => atNode_any n ⟨kind, loc, b, c, ra, rl, rc, rb, ro, f⟩ base P N e Bv y W1 h1 hck hN hL1 hfit (hv.below hBb (Nat.le_refl _)) hk)
  have HmA := hide (fun hk => atMail_any n ⟨kind, loc, b, c, ra, rl, rc, rb, ro, f⟩ base P N e Bv y W1 h1 hck hN hL1 hfit (hv.below hBb (Nat.le_refl _)) hk)
  obtain ⟨er, her⟩ : ∃ er, er = e.stepErr n.net (EvM.ev ⟨kind, loc, b, c, ra, rl, rc, rb, ro, f⟩) := ⟨_, rfl⟩
  obtain ⟨e2, he2⟩ : ∃ e2, e2 = (if e.stepErr n.net (EvM.ev ⟨kind, loc, b, c, ra, rl, rc, rb, ro, f⟩) = 0 then e.step n.net (EvM.ev ⟨kind, loc, b, c, ra, rl, rc, rb, ro, f⟩) else e) := ⟨_, rfl⟩
  rw [← he2, ← her] at HnA HmA ⊢
  simp only [NetM.val, EvM.val, EvM.cells, hcells] at HnA HmA ⊢
  have Hb1 := hide hBb
  have HLW := hide hL1
  rw [hcells] at hW1
  rw [hW1] at HnA HmA Hb1 HLW
  have Her := hide her
  have He2 := hide he2
  clear h hL hv hbw hcells hB1 hBb hL1 h1 hv1 b3 b5 hW1 hfit hN her he2 hck hNN hnn
  by_cases hx : kind < 1 ∨ 7 < kind
  · have hst : e.stepErr n.net (EvM.ev ⟨kind, loc, b, c, ra, rl, rc, rb, ro, f⟩) = 7 := by
      unfold Eng.stepErr EvM.ev
      simp only []
      rw [if_pos hx]
    have H2 := hide (show EvAns base P N er e2 w (.returned (.int .i64 7)) _ from ⟨by rw [Her.out, hst], ⟨Bv, y, by rw [He2.out, hst, if_neg (by decide)]; exact HLW.out⟩, Hb1.out⟩)
    have k1 : (kind == 1) = false := by simp; omega
    have k2 : (kind == 2) = false := by simp; omega
    have k3 : (kind == 3) = false := by simp; omega
    have k4 : (kind == 4) = false := by simp; omega
    have k5 : (kind == 5) = false := by simp; omega
    have k6 : (kind == 6) = false := by simp; omega
    have k7 : (kind == 7) = false := by simp; omega
    clear hst hx HnA HmA Her He2
    go_enter Tryz.func19, Tryz.ntmps19
    go_wp2
    first
    | exact H2.out
    | (go_ret; exact H2.out)
  have hk7 : kind = 1 ∨ kind = 6 ∨ kind = 7 ∨ kind = 2 ∨ kind = 3 ∨ kind = 4 ∨ kind = 5 := by omega
  clear hx Her He2
  rcases hk7 with rfl | rfl | rfl | rfl | rfl | rfl | rfl
  · have HC := hide (HnA.out (by omega))
    clear HnA HmA
    go_enter Tryz.func19, Tryz.ntmps19
    go_wp2_with fail
    go_at_call 45
    refine HC.out.mono ?_
    rintro r w3 ⟨rfl, hl3, hb3⟩
    have H2 : Hid (EvAns base P N er e2 w (.returned (.int .i64 er)) w3) := hide ⟨rfl, hl3, Hb1.out.trans hb3⟩
    clear hl3 hb3 HC Hb1 HLW
    go_wp2
    first
    | exact H2.out
    | (go_ret; exact H2.out)
  · have HC := hide (HnA.out (by omega))
    clear HnA HmA
    go_enter Tryz.func19, Tryz.ntmps19
    go_wp2_with fail
    go_at_call 45
    refine HC.out.mono ?_
    rintro r w3 ⟨rfl, hl3, hb3⟩
    have H2 : Hid (EvAns base P N er e2 w (.returned (.int .i64 er)) w3) := hide ⟨rfl, hl3, Hb1.out.trans hb3⟩
    clear hl3 hb3 HC Hb1 HLW
    go_wp2
    first
    | exact H2.out
    | (go_ret; exact H2.out)
  · have HC := hide (HnA.out (by omega))
    clear HnA HmA
    go_enter Tryz.func19, Tryz.ntmps19
    go_wp2_with fail
    go_at_call 45
    refine HC.out.mono ?_
    rintro r w3 ⟨rfl, hl3, hb3⟩
    have H2 : Hid (EvAns base P N er e2 w (.returned (.int .i64 er)) w3) := hide ⟨rfl, hl3, Hb1.out.trans hb3⟩
    clear hl3 hb3 HC Hb1 HLW
    go_wp2
    first
    | exact H2.out
    | (go_ret; exact H2.out)
  · have HC := hide (HmA.out (by omega))
    clear HnA HmA
    go_enter Tryz.func19, Tryz.ntmps19
    go_wp2_with fail
    go_at_call 46
    refine HC.out.mono ?_
    rintro r w3 ⟨rfl, hl3, hb3⟩
    have H2 : Hid (EvAns base P N er e2 w (.returned (.int .i64 er)) w3) := hide ⟨rfl, hl3, Hb1.out.trans hb3⟩
    clear hl3 hb3 HC Hb1 HLW
    go_wp2
    first
    | exact H2.out
    | (go_ret; exact H2.out)
  · have HC := hide (HmA.out (by omega))
    clear HnA HmA
    go_enter Tryz.func19, Tryz.ntmps19
    go_wp2_with fail
    go_at_call 46
    refine HC.out.mono ?_
    rintro r w3 ⟨rfl, hl3, hb3⟩
    have H2 : Hid (EvAns base P N er e2 w (.returned (.int .i64 er)) w3) := hide ⟨rfl, hl3, Hb1.out.trans hb3⟩
    clear hl3 hb3 HC Hb1 HLW
    go_wp2
    first
    | exact H2.out
    | (go_ret; exact H2.out)
  · have HC := hide (HmA.out (by omega))
    clear HnA HmA
    go_enter Tryz.func19, Tryz.ntmps19
    go_wp2_with fail
    go_at_call 46
    refine HC.out.mono ?_
    rintro r w3 ⟨rfl, hl3, hb3⟩
    have H2 : Hid (EvAns base P N er e2 w (.returned (.int .i64 er)) w3) := hide ⟨rfl, hl3, Hb1.out.trans hb3⟩
    clear hl3 hb3 HC Hb1 HLW
    go_wp2
    first
    | exact H2.out
    | (go_ret; exact H2.out)
  · have HC := hide (HmA.out (by omega))
    clear HnA HmA
    go_enter Tryz.func19, Tryz.ntmps19
    go_wp2_with fail
    go_at_call 46
    refine HC.out.mono ?_
    rintro r w3 ⟨rfl, hl3, hb3⟩
    have H2 : Hid (EvAns base P N er e2 w (.returned (.int .i64 er)) w3) := hide ⟨rfl, hl3, Hb1.out.trans hb3⟩
    clear hl3 hb3 HC Hb1 HLW
    go_wp2
    first
    | exact H2.out
    | (go_ret; exact H2.out)

end Go.Proofs.YtjhkadffaephmabGreat

/-
  engine.Step.
-/
namespace Go.Proofs.YtjhkadffaephmabGreat
set_option maxRecDepth 100000
open Go.RowKit

/-- A result is set, below all that the engine is. -/
theorem Live.setRes {base P N : Nat} {e : Eng} {Bv : Value} {y : Lay} {W : World} (h : Live base P N e Bv y W) (hN0 : 0 < N) {q : Nat} {t : TypeId} (hq : q < base) (hb : Blk W q #[.slice none 0 0, .slice none 0 0] t) (u v : Value) :
    Live base P N e Bv y ((W.setCell ⟨q, 0, none⟩ u).setCell ⟨q, 1, none⟩ v) := by
  obtain ⟨W2, hW2⟩ : ∃ W2, W2 = (W.setCell ⟨q, 0, none⟩ u).setCell ⟨q, 1, none⟩ v := ⟨_, rfl⟩
  have hws : W2.heap.size = W.heap.size := by rw [hW2]; simp
  have hno : ∀ b o z, W.cell? ⟨b, o, none⟩ = some (.int .i64 z) → b ≠ q := fun b o z hc e1 => by
    subst e1
    rw [hb.cell o] at hc
    rcases o with _ | _ | o
    · simp at hc
    · simp at hc
    · simp at hc
  have hcell : ∀ b o, b ≠ q → W2.cell? ⟨b, o, none⟩ = W.cell? ⟨b, o, none⟩ := fun b o hne => by rw [hW2, cell_other hne, cell_other hne]
  have hblk : ∀ b cs t, b ≠ q → Blk W b cs t → Blk W2 b cs t := fun b cs t hne hk => by rw [hW2]; exact (hk.other hne _ _).other hne _ _
  have hoff : ∀ b, y.Off P N Bv W b → y.Off P N Bv W2 b := fun b ho => ⟨ho.p, ho.g, ho.t, ho.v, by rw [hws]; exact ho.lt, ho.lo⟩
  have hp := h.lp
  have hg := h.lg
  have hbv : Bv.ownBlock ≠ some q := fun e1 => by have := (h.bag.lt q e1).1; omega
  rw [← hW2]
  refine ⟨hblk _ _ _ (by omega) h.head, hblk _ _ _ (by omega) h.rtrs, h.r0, h.r1, fun i hi => hblk _ _ _ (by have := h.lt i hi; omega) (h.tolds i hi), h.t0, fun i hi => ?_, fun i hi k hk ht => ?_, ?_, h.lp, h.lg, h.lt, h.pg, h.pt, h.gt, h.tt, h.bv, h.ylo⟩
  · obtain ⟨h1, h2⟩ := h.routes i hi
    exact ⟨hoff _ h1, fun j hj => by rw [hcell _ _ (hno _ _ _ (h2 0 hN0))]; exact h2 j hj⟩
  · obtain ⟨h1, h2, h3⟩ := h.rows i hi k hk ht
    exact ⟨h1, hoff _ h2, fun j hj => by rw [hcell _ _ (hno _ _ _ (h3 0 hN0))]; exact h3 j hj⟩
  · rw [hW2]
    exact ownsRow_setCell_other (ownsRow_setCell_other h.bag hbv _) hbv _

def zeroEng : Value := .agg #[.slice none 0 0, .slice none 0 0]
/-- What Step answers. -/
def StepAns (n : Net) (x : EngM) (v : Ev) (w : World) (r : Ending) (w' : World) : Prop :=
  Below w.heap.size w w' ∧
  ((x.err n ≠ 0 ∧ r = .returned (.tuple #[zeroEng, .int .i64 (x.err n)])) ∨
   (x.err n = 0 ∧ x.eng.stepErr n v ≠ 0 ∧ r = .returned (.tuple #[zeroEng, .int .i64 (x.eng.stepErr n v)])) ∨
   (x.err n = 0 ∧ x.eng.stepErr n v = 0 ∧ ∃ m : EngM, r = .returned (.tuple #[m.val, .int .i64 0]) ∧ m.In w'.heap.size w' ∧ m.eng = x.eng.step n v ∧ m.err n = 0 ∧ m.From w.heap.size ∧ m.Apart w'))

set_option maxHeartbeats 4000000 in
theorem step_any (n : NetM) (x : EngM) (v : EvM) (w : World) (h : n.In w.heap.size w) (hx : x.In w.heap.size w) (hv : v.In w.heap.size w) :
    Calls Tryz.prog 5 #[n.val, x.val, v.val] w fun r w' => StepAns n.net x v.ev w r w' := by
  obtain ⟨W1, hW1⟩ : ∃ W1, W1 = (((w.alloc (.cells n.cells 27)).alloc (.cells x.cells 31)).alloc (.cells v.cells 34)).alloc (.cells #[.slice none 0 0, .slice none 0 0] 31) := ⟨_, rfl⟩
  have hB1 : Below w.heap.size w W1 := by rw [hW1]; exact ((((Below.refl _ w).alloc (Nat.le_refl _) _).alloc (by simp) _).alloc (by simp; omega) _).alloc (by simp; omega) _
  have b3 : Blk W1 w.heap.size n.cells 27 := by rw [hW1]; exact (((Blk.new w _ _).alloc _).alloc _).alloc _
  have b4 : Blk W1 (w.heap.size + 1) x.cells 31 := by rw [hW1]; exact ((show Blk _ (w.heap.size + 1) x.cells 31 from Blk.new' (by simp)).alloc _).alloc _
  have b5 : Blk W1 (w.heap.size + 1 + 1) v.cells 34 := by rw [hW1]; exact (show Blk _ (w.heap.size + 1 + 1) v.cells 34 from Blk.new' (by simp)).alloc _
  have b6 : Blk W1 (w.heap.size + 1 + 1 + 1) #[.slice none 0 0, .slice none 0 0] 31 := by rw [hW1]; exact Blk.new' (by simp)
  have HCk := hide (engineCheck_any n x W1 (h.grown hB1) (hx.grown hB1))
  have H := hide h
  have Hx := hide hx
  have Hv := hide hv
  have HB1 := hide hB1
  have Hb3 := hide b3
  have Hb4 := hide b4
  have Hb5 := hide b5
  have Hb6 := hide b6
  simp only [NetM.val, NetM.cells, Mat.val, EngM.val, EngM.cells, EvM.val, EvM.cells] at hW1 HCk ⊢
  rw [hW1] at HCk
  have HW1 := hide hW1
  clear h hx hv hB1 b3 b4 b5 b6 hW1
  go_enter Tryz.func5, Tryz.ntmps5
  go_wp2_with fail
  go_at_call 9
  refine HCk.out.mono ?_
  rw [← HW1.out]
  rintro r W2 ⟨rfl, hb2⟩
  have c6 := Hb6.out.below hb2 Hb6.out.lt
  have HB2 := hide (HB1.out.trans (hb2.mono HB1.out.size))
  by_cases hck : x.err n.net = 0
  rotate_left
  · have s0 := c6.cell 0
    have s1 := c6.cell 1
    have f0 := c6.frozen 0
    have f1 := c6.frozen 1
    have c7 := (c6.set 0 (.slice none 0 0)).set 1 (.slice none 0 0)
    have e0 := c7.cell 0
    have e1 := c7.cell 1
    simp at s0 s1 e0 e1
    have hne : (x.err n.net == 0) = false := by simpa using hck
    have HF : Hid (StepAns n.net x v.ev w (.returned (.tuple #[.agg #[.slice none 0 0, .slice none 0 0], .int .i64 (x.err n.net)])) ((W2.setCell ⟨w.heap.size + 1 + 1 + 1, 0, none⟩ (.slice none 0 0)).setCell ⟨w.heap.size + 1 + 1 + 1, 1, none⟩ (.slice none 0 0))) := hide ⟨(HB2.out.setCell (p := ⟨w.heap.size + 1 + 1 + 1, 0, none⟩) (by show w.heap.size ≤ w.heap.size + 1 + 1 + 1; omega) _).setCell (p := ⟨w.heap.size + 1 + 1 + 1, 1, none⟩) (by show w.heap.size ≤ w.heap.size + 1 + 1 + 1; omega) _, Or.inl ⟨hck, rfl⟩⟩
    generalize x.err n.net = er at *
    clear c6 c7 hb2 HCk hck
    go_wp2
    exact bodyPost_ret (v := .tuple #[.agg #[.slice none 0 0, .slice none 0 0], .int .i64 er]) (by simp [results, Tryz.results5, go_sem, e0, e1]) rfl HF.out
  have hchk : n.net.check = 0 := by
    have := hck
    unfold EngM.err at this
    split at this
    · next h1 => exact absurd this h1
    · next h1 => omega
  obtain ⟨N, hN⟩ : ∃ N : Nat, n.nodes = N := ⟨n.nodes.toNat, by have := (Net.good_of_check hchk).lo; have : n.net.nodes = n.nodes := rfl; omega⟩
  obtain ⟨hN0, hN6, hNN, hnn⟩ := nodes_six hchk hN
  have HR := hide (EngM.right hck hnn)
  have HCp := hide (copied_any x N W2 (Hx.out.grown HB2.out) HR.out.gn hN0 hN6 HR.out.bn HR.out.rl HR.out.tl HR.out.ll)
  have c4 := Hb4.out.below hb2 Hb4.out.lt
  have q0 := c4.cell 0
  have q1 := c4.cell 1
  simp [EngM.cells] at q0 q1
  simp only [EngM.val, EngM.cells] at HCp
  rw [hck]
  have Hb2' := hide hb2
  have Hck := hide hck
  clear hb2 HCk c4 c6 hck
  go_wp2_with fail
  go_at_call 18
  refine HCp.out.mono ?_
  rintro r W3 ⟨mid, Bv, y, rfl, hparts, hown, hbm, hGl, hb3⟩
  obtain ⟨ba, bc, hBv⟩ := own_form hown
  obtain ⟨W4, hW4⟩ : ∃ W4, W4 = W3.alloc (.cells #[.slice (some ⟨y.G, 0, none⟩) N y.gc, Bv] 31) := ⟨_, rfl⟩
  have hB4 : Below W3.heap.size W3 W4 := by rw [hW4]; exact (Below.refl _ W3).alloc (Nat.le_refl _) _
  have hb24 := hb3.trans (hB4.mono hb3.size)
  have hlive : Live W2.heap.size W3.heap.size N x.eng Bv y W4 := by rw [hW4]; exact hparts.live hown hbm hb3.size hGl
  have hw24 := HB2.out.trans (hb24.mono HB2.out.size)
  have hn4 := (H.out.below hw24 (Nat.le_refl _)).mono HB2.out.size
  have hv4 := (Hv.out.below hw24 (Nat.le_refl _)).mono HB2.out.size
  have HHp := hide (happen_any n v W2.heap.size W3.heap.size N x.eng Bv y W4 hn4 hchk hN hlive HR.out.fit hv4)
  have c3 := (Hb3.out.below Hb2'.out Hb3.out.lt).below hb3 (Nat.lt_of_lt_of_le Hb3.out.lt Hb2'.out.size)
  have c5 := (Hb5.out.below Hb2'.out Hb5.out.lt).below hb3 (Nat.lt_of_lt_of_le Hb5.out.lt Hb2'.out.size)
  have c6 := (Hb6.out.below Hb2'.out Hb6.out.lt).below hb24 (Nat.lt_of_lt_of_le Hb6.out.lt Hb2'.out.size)
  have x0 : ∀ o, (W3.alloc o).cell? ⟨w.heap.size, 0, none⟩ = some (.int .i64 n.a.size) := fun o => by have := (c3.alloc o).cell 0; simpa [NetM.cells] using this
  have x1 : ∀ o, (W3.alloc o).cell? ⟨w.heap.size, 1, none⟩ = some (.slice n.a.B.ga n.a.B.t.len n.a.B.cap) := fun o => by have := (c3.alloc o).cell 1; simpa [NetM.cells, Mat.val] using this
  have x2 : ∀ o, (W3.alloc o).cell? ⟨w.heap.size, 2, none⟩ = some (.slice n.a.E.ga n.a.E.t.len n.a.E.cap) := fun o => by have := (c3.alloc o).cell 2; simpa [NetM.cells, Mat.val] using this
  have x3 : ∀ o, (W3.alloc o).cell? ⟨w.heap.size, 3, none⟩ = some (.int .i64 n.nodes) := fun o => by have := (c3.alloc o).cell 3; simpa [NetM.cells] using this
  have x4 : ∀ o, (W3.alloc o).cell? ⟨w.heap.size, 4, none⟩ = some (.slice n.la n.ln n.lc) := fun o => by have := (c3.alloc o).cell 4; simpa [NetM.cells] using this
  have v0 : ∀ o, (W3.alloc o).cell? ⟨w.heap.size + 1 + 1, 0, none⟩ = some (.int .i64 v.kind) := fun o => by have := (c5.alloc o).cell 0; simpa [EvM.cells] using this
  have v1 : ∀ o, (W3.alloc o).cell? ⟨w.heap.size + 1 + 1, 1, none⟩ = some (.int .i64 v.loc) := fun o => by have := (c5.alloc o).cell 1; simpa [EvM.cells] using this
  have v2 : ∀ o, (W3.alloc o).cell? ⟨w.heap.size + 1 + 1, 2, none⟩ = some (.int .i64 v.b) := fun o => by have := (c5.alloc o).cell 2; simpa [EvM.cells] using this
  have v3 : ∀ o, (W3.alloc o).cell? ⟨w.heap.size + 1 + 1, 3, none⟩ = some (.int .i64 v.c) := fun o => by have := (c5.alloc o).cell 3; simpa [EvM.cells] using this
  have v4 : ∀ o, (W3.alloc o).cell? ⟨w.heap.size + 1 + 1, 4, none⟩ = some (.slice v.ra v.rl v.rc) := fun o => by have := (c5.alloc o).cell 4; simpa [EvM.cells] using this
  obtain ⟨er, her⟩ : ∃ er, er = x.eng.stepErr n.net v.ev := ⟨_, rfl⟩
  obtain ⟨e2, he2⟩ : ∃ e2, e2 = (if x.eng.stepErr n.net v.ev = 0 then x.eng.step n.net v.ev else x.eng) := ⟨_, rfl⟩
  rw [← he2, ← her] at HHp
  simp only [NetM.val, NetM.cells, Mat.val, EvM.val, EvM.cells] at HHp
  have Her := hide her
  have He2 := hide he2
  have Hc6 := hide c6
  have Hw24 := hide hw24
  have HB12 := hide Hb2'.out.size
  have Hl6 := hide Hb6.out.lt
  rw [hBv] at hW4
  rw [hW4] at HHp
  rw [hBv]
  have HW4 := hide hW4
  have HN := hide hN
  have Hchk := hide hchk
  clear her he2 c3 c5 c6 hw24 hb24 hB4 hlive hn4 hv4 hW4 hBv hparts hown hbm hGl hb3 HCp q0 q1 hN hchk hnn hNN
  go_wp2_with fail
  go_at_call 19
  refine HHp.out.mono ?_
  rw [← HW4.out]
  rintro r W5 ⟨rfl, ⟨Bv5, y5, hl5⟩, hb5⟩
  have hlt6 : w.heap.size + 1 + 1 + 1 < W2.heap.size := Nat.lt_of_lt_of_le Hl6.out HB12.out
  have c6 := Hc6.out.below hb5 hlt6
  have hw5 := Hw24.out.trans (hb5.mono HB2.out.size)
  have s0 := c6.cell 0
  have s1 := c6.cell 1
  have f0 := c6.frozen 0
  have f1 := c6.frozen 1
  simp at s0 s1
  by_cases hz : er = 0
  rotate_left
  · have c7 := (c6.set 0 (.slice none 0 0)).set 1 (.slice none 0 0)
    have e0 := c7.cell 0
    have e1 := c7.cell 1
    simp at e0 e1
    have hne : (er == 0) = false := by simpa using hz
    have HF : Hid (StepAns n.net x v.ev w (.returned (.tuple #[.agg #[.slice none 0 0, .slice none 0 0], .int .i64 er])) ((W5.setCell ⟨w.heap.size + 1 + 1 + 1, 0, none⟩ (.slice none 0 0)).setCell ⟨w.heap.size + 1 + 1 + 1, 1, none⟩ (.slice none 0 0))) := hide ⟨(hw5.setCell (p := ⟨w.heap.size + 1 + 1 + 1, 0, none⟩) (by show w.heap.size ≤ w.heap.size + 1 + 1 + 1; omega) _).setCell (p := ⟨w.heap.size + 1 + 1 + 1, 1, none⟩) (by show w.heap.size ≤ w.heap.size + 1 + 1 + 1; omega) _, Or.inr (Or.inl ⟨Hck.out, by rw [← Her.out]; exact hz, by rw [← Her.out]; rfl⟩)⟩
    clear c6 c7 hb5 HHp hz hw5 hl5 x0 x1 x2 x3 x4 v0 v1 v2 v3 v4
    go_wp2
    exact bodyPost_ret (v := .tuple #[.agg #[.slice none 0 0, .slice none 0 0], .int .i64 er]) (by simp [results, Tryz.results5, go_sem, e0, e1]) rfl HF.out
  have hz0 : x.eng.stepErr n.net v.ev = 0 := Her.out.symm.trans hz
  have he : e2 = x.eng.step n.net v.ev := by rw [He2.out, if_pos hz0]
  have hfit2 : e2.Fit n.net := by rw [he]; exact HR.out.fit.step (Net.good_of_check Hchk.out) hz0
  obtain ⟨ba5, bc5, hBv5⟩ := own_form hl5.bag
  have p0 := hl5.head.cell 0
  have p1 := hl5.head.cell 1
  simp at p0 p1
  have c7 := (c6.set 0 (.slice (some ⟨y5.G, 0, none⟩) N y5.gc)).set 1 Bv5
  have e0 := c7.cell 0
  have e1 := c7.cell 1
  simp at e0 e1
  have hl6 := hl5.setRes hN0 hlt6 c6 (.slice (some ⟨y5.G, 0, none⟩) N y5.gc) Bv5
  obtain ⟨m, hmc, hmin, hme, hm1, hm2, hm3, hm4, hm5, hm6, hm7⟩ := hl6.outF hN0 hN6 hfit2.many (fun m hm => (hfit2.mail m hm).2.2)
  have hmr : m.err n.net = 0 := EngM.of_right ⟨Hchk.out, hm1, hm2, hm3, fun i hi q hq => by rw [hme]; exact hm4 i hi q hq, by rw [hm5]; exact hfit2.many, by rw [hme]; exact hfit2⟩ (by have h3 : n.net.nodes = n.nodes := rfl; rw [h3]; exact HN.out)
  have HF : Hid (StepAns n.net x v.ev w (.returned (.tuple #[.agg #[.slice (some ⟨y5.G, 0, none⟩) N y5.gc, Bv5], .int .i64 0])) ((W5.setCell ⟨w.heap.size + 1 + 1 + 1, 0, none⟩ (.slice (some ⟨y5.G, 0, none⟩) N y5.gc)).setCell ⟨w.heap.size + 1 + 1 + 1, 1, none⟩ Bv5)) := hide ⟨(hw5.setCell (p := ⟨w.heap.size + 1 + 1 + 1, 0, none⟩) (by show w.heap.size ≤ w.heap.size + 1 + 1 + 1; omega) _).setCell (p := ⟨w.heap.size + 1 + 1 + 1, 1, none⟩) (by show w.heap.size ≤ w.heap.size + 1 + 1 + 1; omega) _, Or.inr (Or.inr ⟨Hck.out, hz0, m, by rw [EngM.val, hmc], hmin, by rw [hme]; exact he, hmr, hm6.mono HB2.out.size, hm7⟩)⟩
  rw [hBv5] at p1 e0 e1 HF
  rw [hz]
  clear c6 c7 hb5 HHp hw5 hl5 hl6 hmc hmin hme hm1 hm2 hm3 hm4 hm5 hm6 hm7 hmr hfit2 he hz0 hBv5 x0 x1 x2 x3 x4 v0 v1 v2 v3 v4 Her He2 hz hlt6
  go_wp2
  exact bodyPost_ret (v := .tuple #[.agg #[.slice (some ⟨y5.G, 0, none⟩) N y5.gc, .slice ba5 e2.bag.length bc5], .int .i64 0]) (by simp [results, Tryz.results5, go_sem, e0, e1]) rfl HF.out

end Go.Proofs.YtjhkadffaephmabGreat
