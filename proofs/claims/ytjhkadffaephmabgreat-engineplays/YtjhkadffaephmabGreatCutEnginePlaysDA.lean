/-
  Our own texts, bundled: a claim holds few files.
-/
import Derived.Test.YtjhkadffaephmabGreatCutEnginePlaysBI
import Derived.Test.YtjhkadffaephmabGreatCutEnginePlaysCJ
import Derived.Test.YtjhkadffaephmabGreatCutEnginePlaysCB
/-
 engine.Play.
-/
namespace Go.Proofs.YtjhkadffaephmabGreat
set_option maxRecDepth 100000
open Go.RowKit

/-- A list of events in memory. -/
structure EvsM where
 ea : Option Addr
 en : Nat
 ec : Nat
 eb : Nat
 eo : Nat
 v : Nat → EvM
def EvsM.evs (l : EvsM) : List Ev := (List.range l.en).map fun i => (l.v i).ev
theorem EvsM.evs_len (l : EvsM) : l.evs.length = l.en := by simp [EvsM.evs]
structure EvsM.In (l : EvsM) (N : Nat) (w : World) : Prop where
 ea : 0 < l.en → l.ea = some ⟨l.eb, l.eo, none⟩
 eb : 0 < l.en → l.eb < N
 c0 : ∀ i, i < l.en → w.cell? ⟨l.eb, l.eo + i * 5, none⟩ = some (.int .i64 (l.v i).kind)
 c1 : ∀ i, i < l.en → w.cell? ⟨l.eb, l.eo + i * 5 + 1, none⟩ = some (.int .i64 (l.v i).loc)
 c2 : ∀ i, i < l.en → w.cell? ⟨l.eb, l.eo + i * 5 + 2, none⟩ = some (.int .i64 (l.v i).b)
 c3 : ∀ i, i < l.en → w.cell? ⟨l.eb, l.eo + i * 5 + 3, none⟩ = some (.int .i64 (l.v i).c)
 c4 : ∀ i, i < l.en → w.cell? ⟨l.eb, l.eo + i * 5 + 4, none⟩ = some (.slice (l.v i).ra (l.v i).rl (l.v i).rc)
 v : ∀ i, i < l.en → (l.v i).In N w
 len : l.en ≤ maxLen
theorem EvsM.In.below {l : EvsM} {N k : Nat} {w w' : World} (h : l.In N w) (hb : Below k w w') (hk : N ≤ k) : l.In N w' := by
 have hc : ∀ o, 0 < l.en → w'.cell? ⟨l.eb, o, none⟩ = w.cell? ⟨l.eb, o, none⟩ := fun o h0 => hb.cell (p := ⟨l.eb, o, none⟩) (Nat.lt_of_lt_of_le (h.eb h0) hk)
 exact ⟨h.ea, h.eb, fun i hi => by rw [hc _ (by omega)]; exact h.c0 i hi, fun i hi => by rw [hc _ (by omega)]; exact h.c1 i hi, fun i hi => by rw [hc _ (by omega)]; exact h.c2 i hi, fun i hi => by rw [hc _ (by omega)]; exact h.c3 i hi, fun i hi => by rw [hc _ (by omega)]; exact h.c4 i hi, fun i hi => (h.v i hi).below hb hk, h.len⟩

/-- What Play answers. -/
def PlayAns (n : Net) (x : EngM) (l : List Ev) (w : World) (r : Ending) (w' : World) : Prop :=
 Below w.heap.size w w' ∧
 ((x.err n ≠ 0 ∧ r = .returned (.tuple #[zeroEng, .int .i64 0, .int .i64 (x.err n)])) ∨
  (x.err n = 0 ∧ 300 < l.length ∧ r = .returned (.tuple #[zeroEng, .int .i64 0, .int .i64 2])) ∨
  (x.err n = 0 ∧ ¬ 300 < l.length ∧ ∃ m : EngM, r = .returned (.tuple #[m.val, .int .i64 ((Eng.play n x.eng l).2 : Int), .int .i64 0]) ∧ m.In w'.heap.size w' ∧ m.eng = (Eng.play n x.eng l).1 ∧ m.err n = 0))

theorem play_next {n : Net} {e : Eng} {l : EvsM} {k : Nat} (hk : k < l.en) (h0 : e.stepErr n (l.v k).ev = 0) : Eng.play n e (l.evs.drop k) = ((Eng.play n (e.step n (l.v k).ev) (l.evs.drop (k + 1))).1, (Eng.play n (e.step n (l.v k).ev) (l.evs.drop (k + 1))).2 + 1) := by
 have hd : l.evs.drop k = (l.v k).ev :: l.evs.drop (k + 1) := by
  rw [List.drop_eq_getElem_cons (by rw [EvsM.evs_len]; exact hk)]
  simp [EvsM.evs]
 rw [hd]
 show (if e.stepErr n (l.v k).ev = 0 then _ else _) = _
 rw [if_pos h0]
theorem play_stop {n : Net} {e : Eng} {l : EvsM} {k : Nat} (hk : k < l.en) (h0 : e.stepErr n (l.v k).ev ≠ 0) : Eng.play n e (l.evs.drop k) = (e, 0) := by
 have hd : l.evs.drop k = (l.v k).ev :: l.evs.drop (k + 1) := by
  rw [List.drop_eq_getElem_cons (by rw [EvsM.evs_len]; exact hk)]
  simp [EvsM.evs]
 rw [hd]
 show (if e.stepErr n (l.v k).ev = 0 then _ else _) = _
 rw [if_neg h0]
theorem play_end {n : Net} {e : Eng} {l : EvsM} : Eng.play n e (l.evs.drop l.en) = (e, 0) := by
 rw [List.drop_eq_nil_of_le (by rw [EvsM.evs_len]; exact Nat.le_refl _)]
 rfl

/-- Behind so many events. -/
structure PlayI (n : Net) (l : EvsM) (base P N : Nat) (e0 : Eng) (W2 : World) (k : Nat) (W : World) : Prop where
 ex : ∃ e1, (∃ Bv y, Live base P N e1 Bv y W) ∧ e1.Fit n ∧ Eng.play n e0 l.evs = ((Eng.play n e1 (l.evs.drop k)).1, k + (Eng.play n e1 (l.evs.drop k)).2)
 below : Below base W2 W

/-- An engine that was changed is put where the result is. -/
theorem live_end {n : Net} {base P N q : Nat} {e : Eng} {Bv : Value} {y : Lay} {W : World} (h : Live base P N e Bv y W) (hf : e.Fit n) (hN0 : 0 < N) (hN6 : N ≤ 6) (hq : q < base) (hb : Blk W q #[.slice none 0 0, .slice none 0 0] 31) (hck : n.check = 0) (hN : n.nodes = (N : Int)) :
  ∃ m : EngM, m.cells = #[.slice (some ⟨y.G, 0, none⟩) N y.gc, Bv] ∧ m.In ((W.setCell ⟨q, 0, none⟩ (.slice (some ⟨y.G, 0, none⟩) N y.gc)).setCell ⟨q, 1, none⟩ Bv).heap.size ((W.setCell ⟨q, 0, none⟩ (.slice (some ⟨y.G, 0, none⟩) N y.gc)).setCell ⟨q, 1, none⟩ Bv) ∧ m.eng = e ∧ m.err n = 0 := by
 have hl6 := h.setRes hN0 hq hb (.slice (some ⟨y.G, 0, none⟩) N y.gc) Bv
 obtain ⟨m, hmc, hmin, hme, hm1, hm2, hm3, hm4, hm5⟩ := hl6.out hN0 hN6 hf.many (fun m hm => (hf.mail m hm).2.2)
 exact ⟨m, hmc, hmin, hme, EngM.of_right ⟨hck, hm1, hm2, hm3, fun i hi q hq => by rw [hme]; exact hm4 i hi q hq, by rw [hm5]; exact hf.many, by rw [hme]; exact hf⟩ hN⟩

set_option maxHeartbeats 4000000 in
theorem play_any (n : NetM) (x : EngM) (l : EvsM) (w : World) (h : n.In w.heap.size w) (hx : x.In w.heap.size w) (hl : l.In w.heap.size w) :
  Calls Tryz.prog 14 #[n.val, x.val, .slice l.ea l.en l.ec] w fun r w' => PlayAns n.net x l.evs w r w' := by
 have hle := hl.len
 unfold maxLen at hle
 have Hl := hide hl
 obtain ⟨W1, hW1⟩ : ∃ W1, W1 = ((w.alloc (.cells n.cells 27)).alloc (.cells x.cells 31)).alloc (.cells #[.slice none 0 0, .slice none 0 0] 31) := ⟨_, rfl⟩
 have hB1 : Below w.heap.size w W1 := by rw [hW1]; exact (((Below.refl _ w).alloc (Nat.le_refl _) _).alloc (by simp) _).alloc (by simp; omega) _
 have b3 : Blk W1 w.heap.size n.cells 27 := by rw [hW1]; exact ((Blk.new w _ _).alloc _).alloc _
 have b4 : Blk W1 (w.heap.size + 1) x.cells 31 := by rw [hW1]; exact (show Blk _ (w.heap.size + 1) x.cells 31 from Blk.new' (by simp)).alloc _
 have b6 : Blk W1 (w.heap.size + 1 + 1) #[.slice none 0 0, .slice none 0 0] 31 := by rw [hW1]; exact Blk.new' (by simp)
 have HCk := hide (engineCheck_any n x W1 (h.grown hB1) (hx.grown hB1))
 have H := hide h
 have Hx := hide hx
 have HB1 := hide hB1
 have Hb3 := hide b3
 have Hb4 := hide b4
 have Hb6 := hide b6
 simp only [NetM.val, NetM.cells, Mat.val, EngM.val, EngM.cells] at hW1 HCk ⊢
 rw [hW1] at HCk
 have HW1 := hide hW1
 clear h hx hl hB1 b3 b4 b6 hW1
 go_enter Tryz.func14, Tryz.ntmps14
 go_wp2_with fail
 go_at_call 9
 refine HCk.out.mono ?_
 rw [← HW1.out]
 rintro r W2 ⟨rfl, hb2⟩
 have c6 := Hb6.out.below hb2 Hb6.out.lt
 have HB2 := hide (HB1.out.trans (hb2.mono HB1.out.size))
 by_cases hck : x.err n.net = 0
 rotate_left
 ·have s0 := c6.cell 0
  have s1 := c6.cell 1
  have f0 := c6.frozen 0
  have f1 := c6.frozen 1
  have c7 := (c6.set 0 (.slice none 0 0)).set 1 (.slice none 0 0)
  have e0 := c7.cell 0
  have e1 := c7.cell 1
  simp at s0 s1 e0 e1
  have hne : (x.err n.net == 0) = false := by simpa using hck
  have HF : Hid (PlayAns n.net x l.evs w (.returned (.tuple #[.agg #[.slice none 0 0, .slice none 0 0], .int .i64 0, .int .i64 (x.err n.net)])) ((W2.setCell ⟨w.heap.size + 1 + 1, 0, none⟩ (.slice none 0 0)).setCell ⟨w.heap.size + 1 + 1, 1, none⟩ (.slice none 0 0))) := hide ⟨(HB2.out.setCell (p := ⟨w.heap.size + 1 + 1, 0, none⟩) (by show w.heap.size ≤ w.heap.size + 1 + 1; omega) _).setCell (p := ⟨w.heap.size + 1 + 1, 1, none⟩) (by show w.heap.size ≤ w.heap.size + 1 + 1; omega) _, Or.inl ⟨hck, rfl⟩⟩
  generalize x.err n.net = er at *
  clear c6 c7 hb2 HCk hck
  go_wp2
  exact bodyPost_ret (v := .tuple #[.agg #[.slice none 0 0, .slice none 0 0], .int .i64 0, .int .i64 er]) (by simp [results, Tryz.results14, go_sem, e0, e1]) rfl HF.out
 by_cases hrd : 300 < l.en
 ·have s0 := c6.cell 0
  have s1 := c6.cell 1
  have f0 := c6.frozen 0
  have f1 := c6.frozen 1
  have c7 := (c6.set 0 (.slice none 0 0)).set 1 (.slice none 0 0)
  have e0 := c7.cell 0
  have e1 := c7.cell 1
  simp at s0 s1 e0 e1
  have HF : Hid (PlayAns n.net x l.evs w (.returned (.tuple #[.agg #[.slice none 0 0, .slice none 0 0], .int .i64 0, .int .i64 2])) ((W2.setCell ⟨w.heap.size + 1 + 1, 0, none⟩ (.slice none 0 0)).setCell ⟨w.heap.size + 1 + 1, 1, none⟩ (.slice none 0 0))) := hide ⟨(HB2.out.setCell (p := ⟨w.heap.size + 1 + 1, 0, none⟩) (by show w.heap.size ≤ w.heap.size + 1 + 1; omega) _).setCell (p := ⟨w.heap.size + 1 + 1, 1, none⟩) (by show w.heap.size ≤ w.heap.size + 1 + 1; omega) _, Or.inr (Or.inl ⟨hck, by rw [EvsM.evs_len]; exact hrd, rfl⟩)⟩
  rw [hck]
  clear c6 c7 hb2 HCk hck
  have hrd' : (300 : Int) < (l.en : Int) := by omega
  go_wp2
  exact bodyPost_ret (v := .tuple #[.agg #[.slice none 0 0, .slice none 0 0], .int .i64 0, .int .i64 2]) (by simp [results, Tryz.results14, go_sem, e0, e1]) rfl HF.out
 have hR2 : ¬ (300 : Int) < (l.en : Int) := by omega
 have hchk : n.net.check = 0 := by
  have := hck
  unfold EngM.err at this
  split at this
  ·next h1 => exact absurd this h1
  ·next h1 => omega
 obtain ⟨N, hN⟩ : ∃ N : Nat, n.nodes = N := ⟨n.nodes.toNat, by have := (Net.good_of_check hchk).lo; have : n.net.nodes = n.nodes := rfl; omega⟩
 obtain ⟨hN0, hN6, hNN, hnn⟩ := nodes_six hchk hN
 have HR := hide (EngM.right hck hnn)
 have HCp := hide (copied_any x N W2 (Hx.out.grown HB2.out) HR.out.gn hN0 hN6 HR.out.bn HR.out.rl HR.out.tl HR.out.ll)
 have c4 := Hb4.out.below hb2 Hb4.out.lt
 have q0 := c4.cell 0
 have q1 := c4.cell 1
 simp [EngM.cells] at q0 q1
 simp only [EngM.val, EngM.cells] at HCp
 rw [hck]
 have Hb2' := hide hb2
 have Hck := hide hck
 clear hb2 HCk c4 c6 hck
 go_wp2_with fail
 go_at_call 18
 refine HCp.out.mono ?_
 rintro r W3 ⟨mid, Bv, y, rfl, hparts, hown, hbm, hGl, hb3⟩
 obtain ⟨ba, bc, hBv⟩ := own_form hown
 obtain ⟨W4, hW4⟩ : ∃ W4, W4 = W3.alloc (.cells #[.slice (some ⟨y.G, 0, none⟩) N y.gc, Bv] 31) := ⟨_, rfl⟩
 have hB4 : Below W3.heap.size W3 W4 := by rw [hW4]; exact (Below.refl _ W3).alloc (Nat.le_refl _) _
 have hb24 := hb3.trans (hB4.mono hb3.size)
 have hlive : Live W2.heap.size W3.heap.size N x.eng Bv y W4 := by rw [hW4]; exact hparts.live hown hbm hb3.size hGl
 have HnW : Hid (∀ W, Below W2.heap.size W2 W → n.In W2.heap.size W ∧ l.In w.heap.size W) := hide (fun W hb => ⟨(H.out.below (HB2.out.trans (hb.mono HB2.out.size)) (Nat.le_refl _)).mono HB2.out.size, Hl.out.below (HB2.out.trans (hb.mono HB2.out.size)) (Nat.le_refl _)⟩)
 have Hc3 := hide (Hb3.out.below Hb2'.out Hb3.out.lt)
 have Hc6 := hide (Hb6.out.below Hb2'.out Hb6.out.lt)
 have HI0 : Hid (PlayI n.net l W2.heap.size W3.heap.size N x.eng W2 0 W4) := hide ⟨⟨x.eng, ⟨Bv, y, hlive⟩, HR.out.fit, by simp⟩, hb24⟩
 have HN := hide hN
 have Hchk := hide hchk
 have Hnn := hide hnn
 have Hsz2 := hide HB2.out.size
 rw [hBv] at hW4 ⊢
 have HW4 := hide hW4
 clear hb24 hB4 hlive hW4 hBv hparts hown hbm hGl hb3 HCp q0 q1 hN hchk hnn hNN
 go_wp2_with fail
 rw [← HW4.out]
 go_loopw [11, 13, 29] (fun d _ q wr => ∃ k : Nat, k ≤ l.en ∧ q = .int .i64 k ∧ d = .int .i64 k ∧ Hid (PlayI n.net l W2.heap.size W3.heap.size N x.eng W2 k wr)) (fun _ _ q _ => l.en - (intOf q).toNat)
 case atStart => exact ⟨0, Nat.zero_le _, rfl, rfl, HI0⟩
 case round =>
  obtain ⟨k, hk, rfl, rfl, HI⟩ := hrel
  clear HI0
  obtain ⟨e1, ⟨Bv1, y1, hl1⟩, hf1, hp1⟩ := HI.out.ex
  have hb1 := HI.out.below
  clear HI
  by_cases hlt : k < l.en
  ·have hki : (k : Int) < (l.en : Int) := by omega
   obtain ⟨hn1, hv1⟩ := HnW.out wr hb1
   have hea := hv1.ea (by omega)
   have d0 := hv1.c0 k hlt
   have d1 := hv1.c1 k hlt
   have d2 := hv1.c2 k hlt
   have d3 := hv1.c3 k hlt
   have d4 := hv1.c4 k hlt
   obtain ⟨W6, hW6⟩ : ∃ W6, W6 = wr.alloc (.cells #[.int .i64 (l.v k).kind, .int .i64 (l.v k).loc, .int .i64 (l.v k).b, .int .i64 (l.v k).c, .slice (l.v k).ra (l.v k).rl (l.v k).rc] 34) := ⟨_, rfl⟩
   have hbase : W2.heap.size ≤ wr.heap.size := hb1.size
   have hB6 : Below wr.heap.size wr W6 := by rw [hW6]; exact (Below.refl _ wr).alloc (Nat.le_refl _) _
   have hl6 := hl1.below hB6
   have hb6 := hb1.trans (hB6.mono hbase)
   have HH := hide (happen_any n (l.v k) W2.heap.size W3.heap.size N e1 Bv1 y1 W6 (HnW.out W6 hb6).1 Hchk.out HN.out hl6 hf1 (((HnW.out W6 hb6).2.v k hlt).mono Hsz2.out))
   have c3 := Hc3.out.below hb1 Hc3.out.lt
   have x0 : ∀ o, (wr.alloc o).cell? ⟨w.heap.size, 0, none⟩ = some (.int .i64 n.a.size) := fun o => by have := (c3.alloc o).cell 0; simpa [NetM.cells] using this
   have x1 : ∀ o, (wr.alloc o).cell? ⟨w.heap.size, 1, none⟩ = some (.slice n.a.B.ga n.a.B.t.len n.a.B.cap) := fun o => by have := (c3.alloc o).cell 1; simpa [NetM.cells, Mat.val] using this
   have x2 : ∀ o, (wr.alloc o).cell? ⟨w.heap.size, 2, none⟩ = some (.slice n.a.E.ga n.a.E.t.len n.a.E.cap) := fun o => by have := (c3.alloc o).cell 2; simpa [NetM.cells, Mat.val] using this
   have x3 : ∀ o, (wr.alloc o).cell? ⟨w.heap.size, 3, none⟩ = some (.int .i64 n.nodes) := fun o => by have := (c3.alloc o).cell 3; simpa [NetM.cells] using this
   have x4 : ∀ o, (wr.alloc o).cell? ⟨w.heap.size, 4, none⟩ = some (.slice n.la n.ln n.lc) := fun o => by have := (c3.alloc o).cell 4; simpa [NetM.cells] using this
   obtain ⟨er, her⟩ : ∃ er, er = e1.stepErr n.net (l.v k).ev := ⟨_, rfl⟩
   obtain ⟨e2, he2⟩ : ∃ e2, e2 = (if e1.stepErr n.net (l.v k).ev = 0 then e1.step n.net (l.v k).ev else e1) := ⟨_, rfl⟩
   rw [← he2, ← her] at HH
   simp only [NetM.val, NetM.cells, Mat.val, EvM.val, EvM.cells] at HH
   rw [hW6] at HH
   have Her := hide her
   have He2 := hide he2
   have Hf1 := hide hf1
   have Hp1 := hide hp1
   have HB6 := hide hb6
   have HW6 := hide hW6
   clear hn1 hv1 hl1 hb1 hl6 hb6 hB6 hW6 c3 her he2 hf1 hp1 hbase
   go_wp2_with fail
   go_at_call 19
   refine HH.out.mono ?_
   rw [← HW6.out]
   rintro r w7 ⟨rfl, ⟨Bv5, y5, hl5⟩, hb7⟩
   have hb5 := HB6.out.trans hb7
   clear hb7 HH x0 x1 x2 x3 x4 d0 d1 d2 d3 d4
   by_cases hz : er = 0
   ·have hz0 : e1.stepErr n.net (l.v k).ev = 0 := Her.out.symm.trans hz
    have HI2 : Hid (PlayI n.net l W2.heap.size W3.heap.size N x.eng W2 (k + 1) w7) := hide ⟨⟨e1.step n.net (l.v k).ev, ⟨Bv5, y5, by rw [He2.out, if_pos hz0] at hl5; exact hl5⟩, Hf1.out.step (Net.good_of_check Hchk.out) hz0, by rw [Hp1.out, play_next hlt hz0]; simp; omega⟩, hb5⟩
    rw [hz]
    clear hl5 hb5 hz hz0 Her He2
    go_wp2
    go_roundw
    case rel =>
     first
     | exact ⟨k + 1, by omega, by go_num, by go_num, HI2⟩
     | ((try rw [← hea]); (repeat apply Exists.intro); refine ⟨?_, rfl⟩; exact ⟨k + 1, by omega, by go_num, by go_num, HI2⟩)
    case measure => simp [intOf]; omega
   ·have hz0 : e1.stepErr n.net (l.v k).ev ≠ 0 := fun h => hz (Her.out.trans h)
    have hne : (er == 0) = false := by simpa using hz
    rw [He2.out, if_neg hz0] at hl5
    have Hpl : Hid (Eng.play n.net x.eng l.evs = (e1, k)) := hide (by rw [Hp1.out, play_stop hlt hz0]; simp)
    obtain ⟨ba5, bc5, hBv5⟩ := own_form hl5.bag
    have c6 := Hc6.out.below hb5 Hc6.out.lt
    have hw5 := HB2.out.trans (hb5.mono HB2.out.size)
    have s0 := c6.cell 0
    have s1 := c6.cell 1
    have f0 := c6.frozen 0
    have f1 := c6.frozen 1
    have p0 := hl5.head.cell 0
    have p1 := hl5.head.cell 1
    have c7 := (c6.set 0 (.slice (some ⟨y5.G, 0, none⟩) N y5.gc)).set 1 Bv5
    have g0 := c7.cell 0
    have g1 := c7.cell 1
    simp at s0 s1 p0 p1 g0 g1
    obtain ⟨m, hmc, hmin, hme, hmr⟩ := live_end hl5 Hf1.out hN0 hN6 Hc6.out.lt c6 Hchk.out Hnn.out
    have HF : Hid (PlayAns n.net x l.evs w (.returned (.tuple #[.agg #[.slice (some ⟨y5.G, 0, none⟩) N y5.gc, Bv5], .int .i64 (k : Int), .int .i64 0])) ((w7.setCell ⟨w.heap.size + 1 + 1, 0, none⟩ (.slice (some ⟨y5.G, 0, none⟩) N y5.gc)).setCell ⟨w.heap.size + 1 + 1, 1, none⟩ Bv5)) := hide ⟨(hw5.setCell (p := ⟨w.heap.size + 1 + 1, 0, none⟩) (by show w.heap.size ≤ w.heap.size + 1 + 1; omega) _).setCell (p := ⟨w.heap.size + 1 + 1, 1, none⟩) (by show w.heap.size ≤ w.heap.size + 1 + 1; omega) _, Or.inr (Or.inr ⟨Hck.out, by rw [EvsM.evs_len]; omega, m, by rw [EngM.val, hmc, Hpl.out], hmin, by rw [hme, Hpl.out], hmr⟩)⟩
    rw [hBv5] at p1 g0 g1 HF
    generalize e1.bag.length = bl at *
    clear c6 c7 hw5 hl5 hb5 hmc hmin hme hmr hBv5
    go_wp2
    exact bodyPost_ret (v := .tuple #[.agg #[.slice (some ⟨y5.G, 0, none⟩) N y5.gc, .slice ba5 bl bc5], .int .i64 (k : Int), .int .i64 0]) (by simp [results, Tryz.results14, go_sem, g0, g1]) rfl HF.out
  ·have hkn : k = l.en := by omega
   have Hpl : Hid (Eng.play n.net x.eng l.evs = (e1, k)) := hide (by rw [hp1, hkn, play_end]; simp)
   have hl5 := hl1
   have hb5 := hb1
   have hki : ¬ (k : Int) < (l.en : Int) := by omega
   clear hp1 hl1 hb1 hkn hlt
   obtain ⟨ba5, bc5, hBv1⟩ := own_form hl5.bag
   have c6 := Hc6.out.below hb5 Hc6.out.lt
   have hw5 := HB2.out.trans (hb5.mono HB2.out.size)
   have s0 := c6.cell 0
   have s1 := c6.cell 1
   have f0 := c6.frozen 0
   have f1 := c6.frozen 1
   have p0 := hl5.head.cell 0
   have p1 := hl5.head.cell 1
   have c7 := (c6.set 0 (.slice (some ⟨y1.G, 0, none⟩) N y1.gc)).set 1 Bv1
   have g0 := c7.cell 0
   have g1 := c7.cell 1
   simp at s0 s1 p0 p1 g0 g1
   obtain ⟨m, hmc, hmin, hme, hmr⟩ := live_end hl5 hf1 hN0 hN6 Hc6.out.lt c6 Hchk.out Hnn.out
   have HF : Hid (PlayAns n.net x l.evs w (.returned (.tuple #[.agg #[.slice (some ⟨y1.G, 0, none⟩) N y1.gc, Bv1], .int .i64 (k : Int), .int .i64 0])) ((wr.setCell ⟨w.heap.size + 1 + 1, 0, none⟩ (.slice (some ⟨y1.G, 0, none⟩) N y1.gc)).setCell ⟨w.heap.size + 1 + 1, 1, none⟩ Bv1)) := hide ⟨(hw5.setCell (p := ⟨w.heap.size + 1 + 1, 0, none⟩) (by show w.heap.size ≤ w.heap.size + 1 + 1; omega) _).setCell (p := ⟨w.heap.size + 1 + 1, 1, none⟩) (by show w.heap.size ≤ w.heap.size + 1 + 1; omega) _, Or.inr (Or.inr ⟨Hck.out, by rw [EvsM.evs_len]; omega, m, by rw [EngM.val, hmc, Hpl.out], hmin, by rw [hme, Hpl.out], hmr⟩)⟩
   rw [hBv1] at p1 g0 g1 HF
   generalize e1.bag.length = bl at *
   clear c6 c7 hw5 hl5 hb5 hmc hmin hme hmr hBv1
   go_wp2
   exact bodyPost_ret (v := .tuple #[.agg #[.slice (some ⟨y1.G, 0, none⟩) N y1.gc, .slice ba5 bl bc5], .int .i64 (k : Int), .int .i64 0]) (by simp [results, Tryz.results14, go_sem, g0, g1]) rfl HF.out

end Go.Proofs.YtjhkadffaephmabGreat

/-
 signpostref.PlayOf.
-/
namespace Go.Proofs.YtjhkadffaephmabGreat
set_option maxRecDepth 100000
open Go.RowKit

/-- StepOf, as one answer. -/
theorem stepOf_one (n : NetM) (m : EngM) (v : EvM) (W : World) (h : n.In W.heap.size W) (hm : m.In W.heap.size W) (hv : v.In W.heap.size W) (he : m.err n.net = 0) (hc : m.bag.bn ≤ m.bag.bc) :
  Calls Tryz.prog 10 #[n.val, m.val, v.val] W fun r w' => (∃ m1 : EngM, r = .returned (.tuple #[m1.val, .int .i64 (m.eng.stepErr n.net v.ev)]) ∧ BoxM (fun m2 => m2.Apart w' ∧ (m.eng.stepErr n.net v.ev = 0 → m2.err n.net = 0 ∧ m2.eng = m.eng.step n.net v.ev ∧ m2.bag.bn ≤ m2.bag.bc)) m1 w') ∧ Below W.heap.size W w' := by
 refine (stepOf_any n m v W h hm hv he hc).mono ?_
 rintro r w' ⟨hb, ⟨h1, h2⟩ | ⟨h1, m', e1, e2, e3, e4, e5, e6⟩⟩
 ·exact ⟨⟨zeroM, h2, zeroM_in _ _, fun q _ _ _ _ _ _ _ => zeroM_clear q, fun q _ _ _ _ _ _ _ => zeroM_clear q, fun h0 => absurd h0 h1⟩, hb⟩
 ·exact ⟨⟨m', by rw [h1]; exact e1, e2, e6, e6, fun _ => ⟨e4, e3, e5⟩⟩, hb⟩

set_option maxHeartbeats 8000000 in
theorem playOf_any (n : NetM) (x : EngM) (l : EvsM) (w : World) (h : n.In w.heap.size w) (hx : x.In w.heap.size w) (hl : l.In w.heap.size w) (herr : x.err n.net = 0) (hcap : x.bag.bn ≤ x.bag.bc) (hle : l.en ≤ 300) :
  Calls Tryz.prog 16 #[n.val, x.val, .slice l.ea l.en l.ec] w fun r w' => ∃ m : EngM, r = .returned (.tuple #[m.val, .int .i64 ((Eng.play n.net x.eng l.evs).2 : Int)]) ∧ CkAns w n x m w' ∧ m.eng = (Eng.play n.net x.eng l.evs).1 := by
 have hck : n.net.check = 0 := by
  unfold EngM.err at herr
  split at herr
  ·next h1 => exact absurd herr h1
  ·next h1 => omega
 obtain ⟨N, hN⟩ : ∃ N : Nat, n.nodes = N := ⟨n.nodes.toNat, by have := (Net.good_of_check hck).lo; have : n.net.nodes = n.nodes := rfl; omega⟩
 obtain ⟨hN0, hN6, hNN, hnn⟩ := nodes_six hck hN
 obtain ⟨W0, hW0⟩ : ∃ W0, W0 = ((w.alloc (.cells n.cells 27)).alloc (.cells x.cells 31)).alloc (.cells #[.slice none 0 0, .slice none 0 0] 31) := ⟨_, rfl⟩
 have hB0 : Below w.heap.size w W0 := by rw [hW0]; exact (((Below.refl _ w).alloc (Nat.le_refl _) _).alloc (by simp) _).alloc (by simp; omega) _
 have HI0 : Hid (∃ m, CkG w n x m W0 ∧ Eng.play n.net x.eng l.evs = ((Eng.play n.net m.eng (l.evs.drop 0)).1, 0 + (Eng.play n.net m.eng (l.evs.drop 0)).2)) := hide ⟨x, ⟨hB0, by rw [hW0]; exact ((Blk.new w _ _).alloc _).alloc _, by rw [hW0]; exact (show Blk _ (w.heap.size + 1) _ _ from Blk.new' (by simp)).alloc _, by rw [hW0]; exact Blk.new' (by simp), hx.grown hB0, herr, hcap, Or.inl rfl⟩, by simp⟩
 have hnc : n.cells = #[.int .i64 n.a.size, .slice n.a.B.ga n.a.B.t.len n.a.B.cap, .slice n.a.E.ga n.a.E.t.len n.a.E.cap, .int .i64 N, .slice n.la n.ln n.lc] := by simp only [NetM.cells, Mat.val, hN]
 have hxc : x.cells = #[.slice x.rs.ga x.rs.gn x.rs.gc, .slice x.bag.ba x.bag.bn x.bag.bc] := rfl
 rw [hnc, hxc] at hW0
 simp only [NetM.val, EngM.val, hnc, hxc]
 have HW0 := hide hW0
 have H := hide h
 have Hx := hide hx
 have Hl := hide hl
 have Hnc := hide hnc
 clear h hx hl herr hcap hck hN hnn hNN hB0 hW0 hnc hxc
 go_enter Tryz.func16, Tryz.ntmps16
 go_wp2_with fail
 rw [← HW0.out]
 clear HW0
 go_loopw [8, 9, 10] (fun q _ _ wr => ∃ k : Nat, k ≤ l.en ∧ q = .int .i64 k ∧ Hid (∃ m, CkG w n x m wr ∧ Eng.play n.net x.eng l.evs = ((Eng.play n.net m.eng (l.evs.drop k)).1, k + (Eng.play n.net m.eng (l.evs.drop k)).2))) (fun q _ _ _ => l.en - (intOf q).toNat)
 case atStart => exact ⟨0, by omega, rfl, HI0⟩
 case round =>
  clear HI0
  obtain ⟨k, hk, rfl, HI⟩ := hrel
  obtain ⟨m, hG, hm⟩ := HI.out
  have HGm := hide hG
  have Hm := hide hm
  clear hG hm HI
  by_cases hlt : k < l.en
  ·have hki : (k : Int) < (l.en : Int) := by omega
   have hea := Hl.out.ea (by omega)
   have Hea := hide hea
   rw [hea]
   obtain ⟨er, her⟩ : ∃ er, er = m.eng.stepErr n.net (l.v k).ev := ⟨_, rfl⟩
   obtain ⟨es, hes⟩ : ∃ es, es = m.eng.step n.net (l.v k).ev := ⟨_, rfl⟩
   have HCs : Hid (∀ W, Below wr.heap.size wr W → Calls Tryz.prog 10 #[.agg #[.int .i64 n.a.size, .slice n.a.B.ga n.a.B.t.len n.a.B.cap, .slice n.a.E.ga n.a.E.t.len n.a.E.cap, .int .i64 (N : Int), .slice n.la n.ln n.lc], .agg #[.slice m.rs.ga m.rs.gn m.rs.gc, .slice m.bag.ba m.bag.bn m.bag.bc], .agg #[.int .i64 (l.v k).kind, .int .i64 (l.v k).loc, .int .i64 (l.v k).b, .int .i64 (l.v k).c, .slice (l.v k).ra (l.v k).rl (l.v k).rc]] W fun r w' => (∃ m1 : EngM, r = .returned (.tuple #[m1.val, .int .i64 er]) ∧ BoxM (fun m2 => m2.Over (w.heap.size + 3) wr ∧ (er = 0 → m2.err n.net = 0 ∧ m2.eng = es ∧ m2.bag.bn ≤ m2.bag.bc)) m1 w') ∧ Below W.heap.size W w') := hide (fun W hb => by
    have hg := HGm.out.keep hb
    have h1 := stepOf_one n m (l.v k) W (H.out.grown hg.below) hg.mem (((Hl.out.below hg.below (Nat.le_refl _)).v k hlt).mono hg.below.size) hg.err hg.cap
    simp only [NetM.val, Hnc.out, EngM.val, EvM.val, EngM.cells, EvM.cells] at h1
    refine h1.mono ?_
    rintro r w' ⟨⟨m1, e1, b1, b2, b3, b4⟩, hb'⟩
    refine ⟨⟨m1, by rw [e1, her]; rfl, b1, b2, fun q hq ⟨a, la, c, a', l', c', hk9⟩ => b3 q a la c a' l' c' ((hk9.below hb hk9.lt).below hb' (Nat.lt_of_lt_of_le hk9.lt hb.size)), fun h0 => ?_⟩, hb'⟩
    rw [hes]
    exact b4 (by rw [← her]; exact h0))
   have Her := hide her
   have Hes := hide hes
   have Hlt := hide hlt
   have HLO : Hid (wr.heap.size ≤ wr.heap.size) := hide (Nat.le_refl _)
   have HLW : Hid (wr.heap.size ≤ wr.heap.size) := hide (Nat.le_refl _)
   clear her hes hea
   go_wp2_with fail
   refine wp_region_mark 11 13 (fun _ W => Below wr.heap.size wr W) (boxE [.agg #[.int .i64 n.a.size, .slice n.a.B.ga n.a.B.t.len n.a.B.cap, .slice n.a.E.ga n.a.E.t.len n.a.E.cap, .int .i64 (N : Int), .slice n.la n.ln n.lc], .agg #[.slice m.rs.ga m.rs.gn m.rs.gc, .slice m.bag.ba m.bag.bn m.bag.bc], .slice (some ⟨l.eb, l.eo, none⟩) l.en l.ec, .int .i64 (k : Int), .pointer (some ⟨l.eb, l.eo + k * 5, none⟩), .agg #[.int .i64 (l.v k).kind, .int .i64 (l.v k).loc, .int .i64 (l.v k).b, .int .i64 (l.v k).c, .slice (l.v k).ra (l.v k).rl (l.v k).rc], undef, undef, undef, .int .i64 er, undef, undef, .int .i64 er] 6 (er) (fun m2 => m2.Over (w.heap.size + 3) wr ∧ (er = 0 → m2.err n.net = 0 ∧ m2.eng = es ∧ m2.bag.bn ≤ m2.bag.bc)) (wr.heap.size)) (by kernel_rfl) (by kernel_rfl) (by kernel_rfl) (by decide) (⟨rfl, rfl, rfl, Nat.le_refl _, fun _ _ => rfl⟩) ⟨?_, ?_, ?_, ?_, ?_, ?_, ?_, ?_, ?_, ?_, ?_, ?_, ?_, trivial⟩ ?_
   rotate_right
   ·intro t4 W4 hG hE
    have e12 := boxE_get (hE 12 (by decide)) (by decide) rfl
    obtain ⟨q4, eq, hlq4, _, hqm⟩ := boxE_c4.1 (hE 10 (by decide))
    obtain ⟨m4, hm⟩ := hqm rfl
    have HG4 := hide hG
    have Hm4 := hide hm
    clear hE hG hm hqm
    simp only [fill, Act.put, List.setIfInBounds_toArray, List.set_cons_zero, List.set_cons_succ, e12, eq]
    clear e12 eq
    by_cases her0 : er = 0
    rotate_left
    ·have hne : (er == 0) = false := by simpa using her0
     have hpl : Eng.play n.net x.eng l.evs = (m.eng, k) := by rw [Hm.out, play_stop Hlt.out (by rw [← Her.out]; exact her0)]; simp
     have hG := HGm.out.keep HG4.out
     have x0 := hG.be.cell 0
     have x1 := hG.be.cell 1
     simp [EngM.cells] at x0 x1
     have c7 := hG.br.set2 (.slice m.rs.ga m.rs.gn m.rs.gc) (.slice m.bag.ba m.bag.bn m.bag.bc)
     have e0 := c7.cell 0
     have e1 := c7.cell 1
     have r0 := hG.br.cell 0
     have r1 := hG.br.cell 1
     have fr0 := hG.br.frozen 0
     have fr1 := hG.br.frozen 1
     simp at e0 e1 r0 r1
     have HF : Hid (∃ m2 : EngM, Ending.returned (.tuple #[.agg #[.slice m.rs.ga m.rs.gn m.rs.gc, .slice m.bag.ba m.bag.bn m.bag.bc], .int .i64 (k : Int)]) = .returned (.tuple #[m2.val, .int .i64 ((Eng.play n.net x.eng l.evs).2 : Int)]) ∧ CkAns w n x m2 ((W4.setCell ⟨w.heap.size + 2, 0, none⟩ (.slice m.rs.ga m.rs.gn m.rs.gc)).setCell ⟨w.heap.size + 2, 1, none⟩ (.slice m.bag.ba m.bag.bn m.bag.bc)) ∧ m2.eng = (Eng.play n.net x.eng l.evs).1) := hide ⟨m, by rw [hpl]; rfl, hG.out Hx.out, by rw [hpl]⟩
     clear hG c7 hpl her0 Hm4 HG4 HGm
     go_wp2
     exact bodyPost_ret (v := .tuple #[.agg #[.slice m.rs.ga m.rs.gn m.rs.gc, .slice m.bag.ba m.bag.bn m.bag.bc], .int .i64 (k : Int)]) (by simp [results, Tryz.results16, go_sem, e0, e1]) rfl HF.out
    have hbx := Hm4.out.blk
    have y0 := hbx.cell 0
    have y1 := hbx.cell 1
    simp [EngM.cells] at y0 y1
    have hG := HGm.out.keep HG4.out
    have x0 := hG.be.cell 0
    have x1 := hG.be.cell 1
    have f0 := hG.be.frozen 0
    have f1 := hG.be.frozen 1
    simp [EngM.cells] at x0 x1
    obtain ⟨hov, hrest⟩ := Hm4.out.ok
    obtain ⟨g1, g2, g3⟩ := hrest her0
    have hput := HGm.out.put HG4.out Hm4.out.mem g1 g3 (hov.keep HG4.out (by have := HGm.out.br.lt; omega))
    have HI2 : Hid (∃ m2, CkG w n x m2 ((W4.setCell ⟨w.heap.size + 1, 0, none⟩ (.slice m4.rs.ga m4.rs.gn m4.rs.gc)).setCell ⟨w.heap.size + 1, 1, none⟩ (.slice m4.bag.ba m4.bag.bn m4.bag.bc)) ∧ Eng.play n.net x.eng l.evs = ((Eng.play n.net m2.eng (l.evs.drop (k + 1))).1, (k + 1) + (Eng.play n.net m2.eng (l.evs.drop (k + 1))).2)) := hide ⟨m4, hput, by
     rw [Hm.out, play_next Hlt.out (by rw [← Her.out]; exact her0), g2, Hes.out]
     refine Prod.ext rfl ?_
     show k + (_ + 1) = k + 1 + _
     omega⟩
    rw [her0]
    clear hbx hG hov hrest g1 g2 g3 hput Hm4 HG4 HGm Hm
    go_wp2
    go_roundw
    case rel =>
     first
     | exact ⟨k + 1, by omega, by go_num, HI2⟩
     | ((try rw [← Hea.out]); (repeat apply Exists.intro); refine ⟨?_, rfl⟩; exact ⟨k + 1, by omega, by go_num, HI2⟩)
    case measure => simp [intOf]; omega
   all_goals first | (rw [if_neg (by decide)]; intro bb t W hb hG hp K hK) | (rw [if_pos rfl]; intro t W hG hp K hK)
   all_goals simp only [fill, Act.put, List.setIfInBounds_toArray, List.set_cons_zero, List.set_cons_succ] at hK ⊢
   ·have cn := (HGm.out.keep hG).bn
    have c0 := cn.cell 0
    have c1 := cn.cell 1
    have c2 := cn.cell 2
    have c3 := cn.cell 3
    have c4 := cn.cell 4
    rw [Hnc.out] at c0 c1 c2 c3 c4
    simp at c0 c1 c2 c3 c4
    clear cn
    rw [if_pos (by rfl)]
    go_simp
    exact hK _ _ hG (boxE_put (by decide) rfl) (fun _ _ h => h)
   ·have cn := (HGm.out.keep hG).be
    have c0 := cn.cell 0
    have c1 := cn.cell 1
    simp [EngM.cells] at c0 c1
    clear cn
    rw [if_pos (by rfl)]
    go_simp
    exact hK _ _ hG (boxE_put (by decide) rfl) (fun _ _ h => h)
   ·rw [if_pos (by rfl)]
    go_simp
    exact hK _ _ hG (boxE_put (by decide) rfl) (fun _ _ h => h)
   ·rw [if_pos (by rfl)]
    go_simp
    exact hK _ _ hG (boxE_put (by decide) rfl) (fun _ _ h => h)
   ·have e2 := boxE_get (hp 2 (by decide)) (by decide) rfl
    have e3 := boxE_get (hp 3 (by decide)) (by decide) rfl
    simp only [e2, e3] at hK ⊢
    rw [if_pos (by rfl)]
    go_simp
    exact hK _ _ hG (boxE_put (by decide) rfl) (fun _ _ h => h)
   ·have e4 := boxE_get (hp 4 (by decide)) (by decide) rfl
    have cn := Hl.out.below (HGm.out.keep hG).below (Nat.le_refl _)
    have c0 := cn.c0 k Hlt.out
    have c1 := cn.c1 k Hlt.out
    have c2 := cn.c2 k Hlt.out
    have c3 := cn.c3 k Hlt.out
    have c4 := cn.c4 k Hlt.out
    clear cn
    simp only [e4] at hK ⊢
    rw [if_pos (by rfl)]
    go_simp
    exact hK _ _ hG (boxE_put (by decide) rfl) (fun _ _ h => h)
   ·have e0 := boxE_get (hp 0 (by decide)) (by decide) rfl
    have e1 := boxE_get (hp 1 (by decide)) (by decide) rfl
    have e5 := boxE_get (hp 5 (by decide)) (by decide) rfl
    have HC := hide (HCs.out W hG)
    simp only [e0, e1, e5] at hK ⊢
    rw [if_pos (by rfl)]
    go_simp
    go_at_call 10
    refine HC.out.mono ?_
    rintro r W1 ⟨⟨m1, rfl, hm1⟩, hb1⟩
    go_simp
    exact hK _ _ (hG.trans (hb1.mono hG.size)) (boxE_c.2 ⟨⟨_, rfl⟩, fun _ => ⟨m1, rfl, hm1⟩⟩) (fun j _ h => boxE_keep hb1 h)
   ·have h1 := boxE_c.1 (hp 6 (by decide))
    rw [if_pos (by rfl)]
    go_simp
    exact hK _ _ hG (boxE_c1.2 h1) (fun _ _ h => h)
   ·have hb0 := hb (by kernel_rfl)
    subst hb0
    obtain ⟨_, h2⟩ := boxE_c1.1 (hp 7 (by decide))
    obtain ⟨m, e, hm⟩ := h2 rfl
    simp only [EngM.val, EngM.cells] at e
    simp only [e] at hK ⊢
    rw [if_pos (by rfl)]
    go_simp
    exact hK _ _ hG (boxE_c2.2 fun _ => ⟨m, rfl, hm⟩) (fun _ _ h => h)
   ·obtain ⟨⟨u, e⟩, _⟩ := boxE_c1.1 (hp 7 (by decide))
    simp only [e] at hK ⊢
    rw [if_pos (by rfl)]
    go_simp
    exact hK _ _ hG (boxE_put (by decide) rfl) (fun _ _ h => h)
   ·have hb0 := hb (by kernel_rfl)
    subst hb0
    rw [if_pos (by rfl)]
    go_simp
    exact hK _ _ (hG.alloc hG.size _) (boxE_c4.2 ⟨W.heap.size, rfl, Nat.le_trans HLO.out hG.size, fun _ => Blk.new W _ _, fun h => by cases h⟩) (fun j _ h => boxE_keep ((Below.refl _ W).alloc (Nat.le_refl _) _) h)
   ·obtain ⟨m1, e1, hm1⟩ := boxE_c2.1 (hp 8 (by decide)) rfl
    obtain ⟨q, eq, hlq, hq, _⟩ := boxE_c4.1 (hp 10 (by decide))
    have hqb := hq rfl
    have HN := hide (hm1.stored hqb)
    have HBs := hide ((hG.setCell (p := ⟨q, 0, none⟩) (Nat.le_trans HLW.out hlq) (.slice m1.rs.ga m1.rs.gn m1.rs.gc)).setCell (p := ⟨q, 1, none⟩) (Nat.le_trans HLW.out hlq) (.slice m1.bag.ba m1.bag.bn m1.bag.bc))
    have c0 := hqb.cell 0
    have c1 := hqb.cell 1
    have f0 := hqb.frozen 0
    have f1 := hqb.frozen 1
    simp at c0 c1
    have Hst := hide (boxE_store (vs := [.agg #[.int .i64 n.a.size, .slice n.a.B.ga n.a.B.t.len n.a.B.cap, .slice n.a.E.ga n.a.E.t.len n.a.E.cap, .int .i64 (N : Int), .slice n.la n.ln n.lc], .agg #[.slice m.rs.ga m.rs.gn m.rs.gc, .slice m.bag.ba m.bag.bn m.bag.bc], .slice (some ⟨l.eb, l.eo, none⟩) l.en l.ec, .int .i64 (k : Int), .pointer (some ⟨l.eb, l.eo + k * 5, none⟩), .agg #[.int .i64 (l.v k).kind, .int .i64 (l.v k).loc, .int .i64 (l.v k).b, .int .i64 (l.v k).c, .slice (l.v k).ra (l.v k).rl (l.v k).rc], undef, undef, undef, .int .i64 er, undef, undef, .int .i64 er]) (c := 6) (er := er) (t := t) (W := W) eq hlq HN.out)
    simp only [EngM.val, EngM.cells] at e1
    clear hm1 hqb hq
    simp only [e1, eq] at hK ⊢
    rw [if_pos (by rfl)]
    go_simp
    exact hK undef _ HBs.out boxE_c5 (fun j hj h => Hst.out j hj h)
   ·have e9 := boxE_get (hp 9 (by decide)) (by decide) rfl
    simp only [e9] at hK ⊢
    rw [if_pos (by rfl)]
    go_simp
    exact hK _ _ hG (boxE_put (by decide) rfl) (fun _ _ h => h)
  ·have hkn : k = l.en := by omega
   have hki : ¬ (k : Int) < (l.en : Int) := by omega
   have hpl : Eng.play n.net x.eng l.evs = (m.eng, k) := by rw [Hm.out, hkn, play_end]; simp
   have hG := HGm.out
   have x0 := hG.be.cell 0
   have x1 := hG.be.cell 1
   simp [EngM.cells] at x0 x1
   have c7 := hG.br.set2 (.slice m.rs.ga m.rs.gn m.rs.gc) (.slice m.bag.ba m.bag.bn m.bag.bc)
   have e0 := c7.cell 0
   have e1 := c7.cell 1
   have r0 := hG.br.cell 0
   have r1 := hG.br.cell 1
   have fr0 := hG.br.frozen 0
   have fr1 := hG.br.frozen 1
   simp at e0 e1 r0 r1
   have HF : Hid (∃ m2 : EngM, Ending.returned (.tuple #[.agg #[.slice m.rs.ga m.rs.gn m.rs.gc, .slice m.bag.ba m.bag.bn m.bag.bc], .int .i64 (l.en : Int)]) = .returned (.tuple #[m2.val, .int .i64 ((Eng.play n.net x.eng l.evs).2 : Int)]) ∧ CkAns w n x m2 ((wr.setCell ⟨w.heap.size + 2, 0, none⟩ (.slice m.rs.ga m.rs.gn m.rs.gc)).setCell ⟨w.heap.size + 2, 1, none⟩ (.slice m.bag.ba m.bag.bn m.bag.bc)) ∧ m2.eng = (Eng.play n.net x.eng l.evs).1) := hide ⟨m, by rw [hpl, hkn]; rfl, hG.out Hx.out, by rw [hpl]⟩
   clear hG c7 hpl hkn Hm HGm
   go_wp2
   exact bodyPost_ret (v := .tuple #[.agg #[.slice m.rs.ga m.rs.gn m.rs.gc, .slice m.bag.ba m.bag.bn m.bag.bc], .int .i64 (l.en : Int)]) (by simp [results, Tryz.results16, go_sem, e0, e1]) rfl HF.out

end Go.Proofs.YtjhkadffaephmabGreat
