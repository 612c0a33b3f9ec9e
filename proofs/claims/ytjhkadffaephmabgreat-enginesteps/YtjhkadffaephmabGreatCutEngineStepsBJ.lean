/-
  Our own texts, bundled: a claim holds few files.
-/
import Derived.Test.YtjhkadffaephmabGreatCutEngineStepsBF
import Derived.Test.YtjhkadffaephmabGreatCutEngineStepsBE
import Derived.Test.YtjhkadffaephmabGreatCutEngineStepsBI
import Derived.Test.YtjhkadffaephmabGreatCutEngineStepsBD
/-
  engine.Step.
-/
namespace Go.Proofs.YtjhkadffaephmabGreat
set_option maxRecDepth 100000
open Go.RowKit

/-- A result is set, below all that the engine is. -/
theorem Live.setRes {base P N : Nat} {e : Eng} {Bv : Value} {y : Lay} {W : World} (h : Live base P N e Bv y W) (hN0 : 0 < N) {q : Nat} {t : TypeId} (hq : q < base) (hb : Blk W q #[.slice none 0 0, .slice none 0 0] t) (u v : Value) :
    Live base P N e Bv y ((W.setCell ⟨q, 0, none⟩ u).setCell ⟨q, 1, none⟩ v) := by
  obtain ⟨W2, hW2⟩ : ∃ W2, W2 = (W.setCell ⟨q, 0, none⟩ u).setCell ⟨q, 1, none⟩ v := ⟨_, rfl⟩
  have hws : W2.heap.size = W.heap.size := by rw [hW2]; simp
  have hno : ∀ b o z, W.cell? ⟨b, o, none⟩ = some (.int .i64 z) → b ≠ q := fun b o z hc e1 => by
    subst e1
    rw [hb.cell o] at hc
    rcases o with _ | _ | o
    · simp at hc
    · simp at hc
    · simp at hc
  have hcell : ∀ b o, b ≠ q → W2.cell? ⟨b, o, none⟩ = W.cell? ⟨b, o, none⟩ := fun b o hne => by rw [hW2, cell_other hne, cell_other hne]
  have hblk : ∀ b cs t, b ≠ q → Blk W b cs t → Blk W2 b cs t := fun b cs t hne hk => by rw [hW2]; exact (hk.other hne _ _).other hne _ _
  have hoff : ∀ b, y.Off P N Bv W b → y.Off P N Bv W2 b := fun b ho => ⟨ho.p, ho.g, ho.t, ho.v, by rw [hws]; exact ho.lt, ho.lo⟩
  have hp := h.lp
  have hg := h.lg
  have hbv : Bv.ownBlock ≠ some q := fun e1 => by have := (h.bag.lt q e1).1; omega
  rw [← hW2]
  refine ⟨hblk _ _ _ (by omega) h.head, hblk _ _ _ (by omega) h.rtrs, h.r0, h.r1, fun i hi => hblk _ _ _ (by have := h.lt i hi; omega) (h.tolds i hi), h.t0, fun i hi => ?_, fun i hi k hk ht => ?_, ?_, h.lp, h.lg, h.lt, h.pg, h.pt, h.gt, h.tt, h.bv, h.ylo⟩
  · obtain ⟨h1, h2⟩ := h.routes i hi
    exact ⟨hoff _ h1, fun j hj => by rw [hcell _ _ (hno _ _ _ (h2 0 hN0))]; exact h2 j hj⟩
  · obtain ⟨h1, h2, h3⟩ := h.rows i hi k hk ht
    exact ⟨h1, hoff _ h2, fun j hj => by rw [hcell _ _ (hno _ _ _ (h3 0 hN0))]; exact h3 j hj⟩
  · rw [hW2]
    exact ownsRow_setCell_other (ownsRow_setCell_other h.bag hbv _) hbv _

def zeroEng : Value := .agg #[.slice none 0 0, .slice none 0 0]
/-- What Step answers. -/
def StepAns (n : Net) (x : EngM) (v : Ev) (w : World) (r : Ending) (w' : World) : Prop :=
  Below w.heap.size w w' ∧
  ((x.err n ≠ 0 ∧ r = .returned (.tuple #[zeroEng, .int .i64 (x.err n)])) ∨
   (x.err n = 0 ∧ x.eng.stepErr n v ≠ 0 ∧ r = .returned (.tuple #[zeroEng, .int .i64 (x.eng.stepErr n v)])) ∨
   (x.err n = 0 ∧ x.eng.stepErr n v = 0 ∧ ∃ m : EngM, r = .returned (.tuple #[m.val, .int .i64 0]) ∧ m.In w'.heap.size w' ∧ m.eng = x.eng.step n v ∧ m.err n = 0 ∧ m.From w.heap.size ∧ m.Apart w'))

set_option maxHeartbeats 4000000 in
theorem step_any (n : NetM) (x : EngM) (v : EvM) (w : World) (h : n.In w.heap.size w) (hx : x.In w.heap.size w) (hv : v.In w.heap.size w) :
    Calls Tryz.prog 5 #[n.val, x.val, v.val] w fun r w' => StepAns n.net x v.ev w r w' := by
  obtain ⟨W1, hW1⟩ : ∃ W1, W1 = (((w.alloc (.cells n.cells 27)).alloc (.cells x.cells 31)).alloc (.cells v.cells 34)).alloc (.cells #[.slice none 0 0, .slice none 0 0] 31) := ⟨_, rfl⟩
  have hB1 : Below w.heap.size w W1 := by rw [hW1]; exact ((((Below.refl _ w).alloc (Nat.le_refl _) _).alloc (by simp) _).alloc (by simp; omega) _).alloc (by simp; omega) _
  have b3 : Blk W1 w.heap.size n.cells 27 := by rw [hW1]; exact (((Blk.new w _ _).alloc _).alloc _).alloc _
  have b4 : Blk W1 (w.heap.size + 1) x.cells 31 := by rw [hW1]; exact ((show Blk _ (w.heap.size + 1) x.cells 31 from Blk.new' (by simp)).alloc _).alloc _
  have b5 : Blk W1 (w.heap.size + 1 + 1) v.cells 34 := by rw [hW1]; exact (show Blk _ (w.heap.size + 1 + 1) v.cells 34 from Blk.new' (by simp)).alloc _
  have b6 : Blk W1 (w.heap.size + 1 + 1 + 1) #[.slice none 0 0, .slice none 0 0] 31 := by rw [hW1]; exact Blk.new' (by simp)
  have HCk := hide (engineCheck_any n x W1 (h.grown hB1) (hx.grown hB1))
  have H := hide h
  have Hx := hide hx
  have Hv := hide hv
  have HB1 := hide hB1
  have Hb3 := hide b3
  have Hb4 := hide b4
  have Hb5 := hide b5
  have Hb6 := hide b6
  simp only [NetM.val, NetM.cells, Mat.val, EngM.val, EngM.cells, EvM.val, EvM.cells] at hW1 HCk ⊢
  rw [hW1] at HCk
  have HW1 := hide hW1
  clear h hx hv hB1 b3 b4 b5 b6 hW1
  go_enter Tryz.func5, Tryz.ntmps5
  go_wp2_with fail
  go_at_call 9
  refine HCk.out.mono ?_
  rw [← HW1.out]
  rintro r W2 ⟨rfl, hb2⟩
  have c6 := Hb6.out.below hb2 Hb6.out.lt
  have HB2 := hide (HB1.out.trans (hb2.mono HB1.out.size))
  by_cases hck : x.err n.net = 0
  rotate_left
  · have s0 := c6.cell 0
    have s1 := c6.cell 1
    have f0 := c6.frozen 0
    have f1 := c6.frozen 1
    have c7 := (c6.set 0 (.slice none 0 0)).set 1 (.slice none 0 0)
    have e0 := c7.cell 0
    have e1 := c7.cell 1
    simp at s0 s1 e0 e1
    have hne : (x.err n.net == 0) = false := by simpa using hck
    have HF : Hid (StepAns n.net x v.ev w (.returned (.tuple #[.agg #[.slice none 0 0, .slice none 0 0], .int .i64 (x.err n.net)])) ((W2.setCell ⟨w.heap.size + 1 + 1 + 1, 0, none⟩ (.slice none 0 0)).setCell ⟨w.heap.size + 1 + 1 + 1, 1, none⟩ (.slice none 0 0))) := hide ⟨(HB2.out.setCell (p := ⟨w.heap.size + 1 + 1 + 1, 0, none⟩) (by show w.heap.size ≤ w.heap.size + 1 + 1 + 1; omega) _).setCell (p := ⟨w.heap.size + 1 + 1 + 1, 1, none⟩) (by show w.heap.size ≤ w.heap.size + 1 + 1 + 1; omega) _, Or.inl ⟨hck, rfl⟩⟩
    generalize x.err n.net = er at *
    clear c6 c7 hb2 HCk hck
    go_wp2
    exact bodyPost_ret (v := .tuple #[.agg #[.slice none 0 0, .slice none 0 0], .int .i64 er]) (by simp [results, Tryz.results5, go_sem, e0, e1]) rfl HF.out
  have hchk : n.net.check = 0 := by
    have := hck
    unfold EngM.err at this
    split at this
    · next h1 => exact absurd this h1
    · next h1 => omega
  obtain ⟨N, hN⟩ : ∃ N : Nat, n.nodes = N := ⟨n.nodes.toNat, by have := (Net.good_of_check hchk).lo; have : n.net.nodes = n.nodes := rfl; omega⟩
  obtain ⟨hN0, hN6, hNN, hnn⟩ := nodes_six hchk hN
  have HR := hide (EngM.right hck hnn)
  have HCp := hide (copied_any x N W2 (Hx.out.grown HB2.out) HR.out.gn hN0 hN6 HR.out.bn HR.out.rl HR.out.tl HR.out.ll)
  have c4 := Hb4.out.below hb2 Hb4.out.lt
  have q0 := c4.cell 0
  have q1 := c4.cell 1
  simp [EngM.cells] at q0 q1
  simp only [EngM.val, EngM.cells] at HCp
  rw [hck]
  have Hb2' := hide hb2
  have Hck := hide hck
  clear hb2 HCk c4 c6 hck
  go_wp2_with fail
  go_at_call 18
  refine HCp.out.mono ?_
  rintro r W3 ⟨mid, Bv, y, rfl, hparts, hown, hbm, hGl, hb3⟩
  obtain ⟨ba, bc, hBv⟩ := own_form hown
  obtain ⟨W4, hW4⟩ : ∃ W4, W4 = W3.alloc (.cells #[.slice (some ⟨y.G, 0, none⟩) N y.gc, Bv] 31) := ⟨_, rfl⟩
  have hB4 : Below W3.heap.size W3 W4 := by rw [hW4]; exact (Below.refl _ W3).alloc (Nat.le_refl _) _
  have hb24 := hb3.trans (hB4.mono hb3.size)
  have hlive : Live W2.heap.size W3.heap.size N x.eng Bv y W4 := by rw [hW4]; exact hparts.live hown hbm hb3.size hGl
  have hw24 := HB2.out.trans (hb24.mono HB2.out.size)
  have hn4 := (H.out.below hw24 (Nat.le_refl _)).mono HB2.out.size
  have hv4 := (Hv.out.below hw24 (Nat.le_refl _)).mono HB2.out.size
  have HHp := hide (happen_any n v W2.heap.size W3.heap.size N x.eng Bv y W4 hn4 hchk hN hlive HR.out.fit hv4)
  have c3 := (Hb3.out.below Hb2'.out Hb3.out.lt).below hb3 (Nat.lt_of_lt_of_le Hb3.out.lt Hb2'.out.size)
  have c5 := (Hb5.out.below Hb2'.out Hb5.out.lt).below hb3 (Nat.lt_of_lt_of_le Hb5.out.lt Hb2'.out.size)
  have c6 := (Hb6.out.below Hb2'.out Hb6.out.lt).below hb24 (Nat.lt_of_lt_of_le Hb6.out.lt Hb2'.out.size)
  have x0 : ∀ o, (W3.alloc o).cell? ⟨w.heap.size, 0, none⟩ = some (.int .i64 n.a.size) := fun o => by have := (c3.alloc o).cell 0; simpa [NetM.cells] using this
  have x1 : ∀ o, (W3.alloc o).cell? ⟨w.heap.size, 1, none⟩ = some (.slice n.a.B.ga n.a.B.t.len n.a.B.cap) := fun o => by have := (c3.alloc o).cell 1; simpa [NetM.cells, Mat.val] using this
  have x2 : ∀ o, (W3.alloc o).cell? ⟨w.heap.size, 2, none⟩ = some (.slice n.a.E.ga n.a.E.t.len n.a.E.cap) := fun o => by have := (c3.alloc o).cell 2; simpa [NetM.cells, Mat.val] using this
  have x3 : ∀ o, (W3.alloc o).cell? ⟨w.heap.size, 3, none⟩ = some (.int .i64 n.nodes) := fun o => by have := (c3.alloc o).cell 3; simpa [NetM.cells] using this
  have x4 : ∀ o, (W3.alloc o).cell? ⟨w.heap.size, 4, none⟩ = some (.slice n.la n.ln n.lc) := fun o => by have := (c3.alloc o).cell 4; simpa [NetM.cells] using this
  have v0 : ∀ o, (W3.alloc o).cell? ⟨w.heap.size + 1 + 1, 0, none⟩ = some (.int .i64 v.kind) := fun o => by have := (c5.alloc o).cell 0; simpa [EvM.cells] using this
  have v1 : ∀ o, (W3.alloc o).cell? ⟨w.heap.size + 1 + 1, 1, none⟩ = some (.int .i64 v.loc) := fun o => by have := (c5.alloc o).cell 1; simpa [EvM.cells] using this
  have v2 : ∀ o, (W3.alloc o).cell? ⟨w.heap.size + 1 + 1, 2, none⟩ = some (.int .i64 v.b) := fun o => by have := (c5.alloc o).cell 2; simpa [EvM.cells] using this
  have v3 : ∀ o, (W3.alloc o).cell? ⟨w.heap.size + 1 + 1, 3, none⟩ = some (.int .i64 v.c) := fun o => by have := (c5.alloc o).cell 3; simpa [EvM.cells] using this
  have v4 : ∀ o, (W3.alloc o).cell? ⟨w.heap.size + 1 + 1, 4, none⟩ = some (.slice v.ra v.rl v.rc) := fun o => by have := (c5.alloc o).cell 4; simpa [EvM.cells] using this
  obtain ⟨er, her⟩ : ∃ er, er = x.eng.stepErr n.net v.ev := ⟨_, rfl⟩
  obtain ⟨e2, he2⟩ : ∃ e2, e2 = (if x.eng.stepErr n.net v.ev = 0 then x.eng.step n.net v.ev else x.eng) := ⟨_, rfl⟩
  rw [← he2, ← her] at HHp
  simp only [NetM.val, NetM.cells, Mat.val, EvM.val, EvM.cells] at HHp
  have Her := hide her
  have He2 := hide he2
  have Hc6 := hide c6
  have Hw24 := hide hw24
  have HB12 := hide Hb2'.out.size
  have Hl6 := hide Hb6.out.lt
  rw [hBv] at hW4
  rw [hW4] at HHp
  rw [hBv]
  have HW4 := hide hW4
  have HN := hide hN
  have Hchk := hide hchk
  clear her he2 c3 c5 c6 hw24 hb24 hB4 hlive hn4 hv4 hW4 hBv hparts hown hbm hGl hb3 HCp q0 q1 hN hchk hnn hNN
  go_wp2_with fail
  go_at_call 19
  refine HHp.out.mono ?_
  rw [← HW4.out]
  rintro r W5 ⟨rfl, ⟨Bv5, y5, hl5⟩, hb5⟩
  have hlt6 : w.heap.size + 1 + 1 + 1 < W2.heap.size := Nat.lt_of_lt_of_le Hl6.out HB12.out
  have c6 := Hc6.out.below hb5 hlt6
  have hw5 := Hw24.out.trans (hb5.mono HB2.out.size)
  have s0 := c6.cell 0
  have s1 := c6.cell 1
  have f0 := c6.frozen 0
  have f1 := c6.frozen 1
  simp at s0 s1
  by_cases hz : er = 0
  rotate_left
  · have c7 := (c6.set 0 (.slice none 0 0)).set 1 (.slice none 0 0)
    have e0 := c7.cell 0
    have e1 := c7.cell 1
    simp at e0 e1
    have hne : (er == 0) = false := by simpa using hz
    have HF : Hid (StepAns n.net x v.ev w (.returned (.tuple #[.agg #[.slice none 0 0, .slice none 0 0], .int .i64 er])) ((W5.setCell ⟨w.heap.size + 1 + 1 + 1, 0, none⟩ (.slice none 0 0)).setCell ⟨w.heap.size + 1 + 1 + 1, 1, none⟩ (.slice none 0 0))) := hide ⟨(hw5.setCell (p := ⟨w.heap.size + 1 + 1 + 1, 0, none⟩) (by show w.heap.size ≤ w.heap.size + 1 + 1 + 1; omega) _).setCell (p := ⟨w.heap.size + 1 + 1 + 1, 1, none⟩) (by show w.heap.size ≤ w.heap.size + 1 + 1 + 1; omega) _, Or.inr (Or.inl ⟨Hck.out, by rw [← Her.out]; exact hz, by rw [← Her.out]; rfl⟩)⟩
    clear c6 c7 hb5 HHp hz hw5 hl5 x0 x1 x2 x3 x4 v0 v1 v2 v3 v4
    go_wp2
    exact bodyPost_ret (v := .tuple #[.agg #[.slice none 0 0, .slice none 0 0], .int .i64 er]) (by simp [results, Tryz.results5, go_sem, e0, e1]) rfl HF.out
  have hz0 : x.eng.stepErr n.net v.ev = 0 := Her.out.symm.trans hz
  have he : e2 = x.eng.step n.net v.ev := by rw [He2.out, if_pos hz0]
  have hfit2 : e2.Fit n.net := by rw [he]; exact HR.out.fit.step (Net.good_of_check Hchk.out) hz0
  obtain ⟨ba5, bc5, hBv5⟩ := own_form hl5.bag
  have p0 := hl5.head.cell 0
  have p1 := hl5.head.cell 1
  simp at p0 p1
  have c7 := (c6.set 0 (.slice (some ⟨y5.G, 0, none⟩) N y5.gc)).set 1 Bv5
  have e0 := c7.cell 0
  have e1 := c7.cell 1
  simp at e0 e1
  have hl6 := hl5.setRes hN0 hlt6 c6 (.slice (some ⟨y5.G, 0, none⟩) N y5.gc) Bv5
  obtain ⟨m, hmc, hmin, hme, hm1, hm2, hm3, hm4, hm5, hm6, hm7⟩ := hl6.outF hN0 hN6 hfit2.many (fun m hm => (hfit2.mail m hm).2.2)
  have hmr : m.err n.net = 0 := EngM.of_right ⟨Hchk.out, hm1, hm2, hm3, fun i hi q hq => by rw [hme]; exact hm4 i hi q hq, by rw [hm5]; exact hfit2.many, by rw [hme]; exact hfit2⟩ (by have h3 : n.net.nodes = n.nodes := rfl; rw [h3]; exact HN.out)
  have HF : Hid (StepAns n.net x v.ev w (.returned (.tuple #[.agg #[.slice (some ⟨y5.G, 0, none⟩) N y5.gc, Bv5], .int .i64 0])) ((W5.setCell ⟨w.heap.size + 1 + 1 + 1, 0, none⟩ (.slice (some ⟨y5.G, 0, none⟩) N y5.gc)).setCell ⟨w.heap.size + 1 + 1 + 1, 1, none⟩ Bv5)) := hide ⟨(hw5.setCell (p := ⟨w.heap.size + 1 + 1 + 1, 0, none⟩) (by show w.heap.size ≤ w.heap.size + 1 + 1 + 1; omega) _).setCell (p := ⟨w.heap.size + 1 + 1 + 1, 1, none⟩) (by show w.heap.size ≤ w.heap.size + 1 + 1 + 1; omega) _, Or.inr (Or.inr ⟨Hck.out, hz0, m, by rw [EngM.val, hmc], hmin, by rw [hme]; exact he, hmr, hm6.mono HB2.out.size, hm7⟩)⟩
  rw [hBv5] at p1 e0 e1 HF
  rw [hz]
  clear c6 c7 hb5 HHp hw5 hl5 hl6 hmc hmin hme hm1 hm2 hm3 hm4 hm5 hm6 hm7 hmr hfit2 he hz0 hBv5 x0 x1 x2 x3 x4 v0 v1 v2 v3 v4 Her He2 hz hlt6
  go_wp2
  exact bodyPost_ret (v := .tuple #[.agg #[.slice (some ⟨y5.G, 0, none⟩) N y5.gc, .slice ba5 e2.bag.length bc5], .int .i64 0]) (by simp [results, Tryz.results5, go_sem, e0, e1]) rfl HF.out

end Go.Proofs.YtjhkadffaephmabGreat

/-
  Engines that the document's reckoning copies: all parts are its own.
-/
namespace Go.Proofs.YtjhkadffaephmabGreat
set_option maxRecDepth 100000
open Go.RowKit

/-- Ints behind nothing: they lie anew. -/
theorem append_copy (W : World) (g : Nat) (a : Option Addr) (l q b o : Nat) (f : Nat → Int) (h : Ints a l b o f W) (hl : l ≤ 100) (ty : TypeId) :
    ∃ (a' : Option Addr) (c b' : Nat) (W2 : World), (Builtin.append_ #[32, 32] ty #[.slice (some ⟨g, 0, none⟩) 0 0, .slice a l q]).run Tryz.prog W = .ok (.slice a' l c) W2 ∧ Ints a' l b' 0 f W2 ∧ (0 < l → (∃ cs, Blk W2 b' cs 3) ∧ W.heap.size ≤ b') ∧ Below W.heap.size W W2 := by
  by_cases hp : 0 < l
  · obtain rfl := h.addr hp
    obtain ⟨i1, hi1, hy0, hy1, hy2⟩ := info_parts Tryz.infoInt
    have hr := run_append_grow (P := Tryz.prog) W 32 ty 3 i1 _ Tryz.underlying32 hi1 hy0 ⟨g, 0, none⟩ 0 0 [] (by rw [hy1]; rfl) (fun j v hv => by simp at hv) ⟨b, o, none⟩ l q (intsL f l) (by rw [intsL_len, hy1, Nat.mul_one]) (fun j u hu => by
      have hj : j < l := by
        rcases Nat.lt_or_ge j l with h' | h'
        · exact h'
        · rw [List.getElem?_eq_none (by rw [intsL_len]; exact h')] at hu; cases hu
      rw [intsL_get hj] at hu
      cases hu
      rw [Go.WideShapes.add_plain]
      exact h.cell j hj) (by omega) (by omega) (growslice_fits (by omega) (by rw [hy2]; omega))
    rw [Nat.zero_add] at hr
    refine ⟨_, _, W.heap.size, _, hr, ⟨fun _ => rfl, fun i hi => ?_, h.len⟩, fun _ => ⟨⟨_, Blk.new W.drew _ _⟩, Nat.le_refl _⟩, (Below.refl W.heap.size W).drew.alloc (Nat.le_refl _) _⟩
    refine ((Blk.new W.drew _ _).cell (0 + i)).trans ?_
    rw [Nat.zero_add, Array.getElem?_append_left (by simp [intsL_len]; omega)]
    simp [intsL_get hi]
  · obtain rfl : l = 0 := by omega
    exact ⟨_, _, 0, _, append_zero W ty g a q, ⟨fun h0 => absurd h0 (Nat.lt_irrefl _), fun i hi => absurd hi (Nat.not_lt_zero _), h.len⟩, fun h0 => absurd h0 (Nat.lt_irrefl _), Below.refl _ _⟩

section
variable {base P N : Nat} {e e' : Eng} {Bv : Value} {y : Lay} {W W' : World}

/-- Only the numbers of the nodes count. -/
theorem Live.congr (h : Live base P N e Bv y W) (hR : ∀ i j, i < N → j < N → e.R i j = e'.R i j) (ht : ∀ i k, i < N → k < N → e.told i k = e'.told i k) (hD : ∀ i k j, i < N → k < N → j < N → e.told i k = true → e.D i k j = e'.D i k j) (hb : e.bag = e'.bag) : Live base P N e' Bv y W :=
  ⟨h.head, h.rtrs, h.r0, h.r1, h.tolds, fun i hi k hk => by rw [← ht i k hi hk]; exact h.t0 i hi k hk, fun i hi => ⟨(h.routes i hi).1, fun j hj => by rw [← hR i j hi hj]; exact (h.routes i hi).2 j hj⟩,
    fun i hi k hk h1 => by
      have h2 : e.told i k = true := by rw [ht i k hi hk]; exact h1
      obtain ⟨q1, q2, q3⟩ := h.rows i hi k hk h2
      exact ⟨q1, q2, fun j hj => by rw [← hD i k j hi hk hj h2]; exact q3 j hj⟩, by rw [← hb]; exact h.bag, h.lp, h.lg, h.lt, h.pg, h.pt, h.gt, h.tt, h.bv, h.ylo⟩

/-- The same engine behind another head. -/
theorem Live.rebox (h : Live base P N e Bv y W) : Live base W.heap.size N e Bv y (W.alloc (.cells #[.slice (some ⟨y.G, 0, none⟩) N y.gc, Bv] 31)) := by
  have hb : Below W.heap.size W (W.alloc (.cells #[.slice (some ⟨y.G, 0, none⟩) N y.gc, Bv] 31)) := (Below.refl _ W).alloc (Nat.le_refl _) _
  have h2 := h.below hb
  have hP := h.head.lt
  have hp := h.lp
  have off : ∀ b, y.Off P N Bv W b → y.Off W.heap.size N Bv (W.alloc (.cells #[.slice (some ⟨y.G, 0, none⟩) N y.gc, Bv] 31)) b := fun b ho => ⟨Nat.ne_of_lt ho.lt, ho.g, ho.t, ho.v, Nat.lt_of_lt_of_le ho.lt hb.size, ho.lo⟩
  exact ⟨Blk.new W _ _, h2.rtrs, h2.r0, h2.r1, h2.tolds, h2.t0, fun i hi => ⟨off _ (h.routes i hi).1, (h2.routes i hi).2⟩, fun i hi k hk ht => ⟨(h.rows i hi k hk ht).1, off _ (h.rows i hi k hk ht).2.1, (h2.rows i hi k hk ht).2.2⟩, h2.bag, by omega, h.lg, h.lt, (Nat.ne_of_lt h.rtrs.lt).symm, fun i hi => (Nat.ne_of_lt (h.tolds i hi).lt).symm, h.gt, h.tt, fun g hg => ⟨Nat.ne_of_lt (h.bag.lt g hg).2, (h.bv g hg).2.1, (h.bv g hg).2.2⟩, ⟨h.ylo.1, by have := h.ylo.2; omega⟩⟩

/-- An engine whose routes lie in rows of their own, that may be written. -/
structure LiveR (base P N : Nat) (e : Eng) (Bv : Value) (y : Lay) (W : World) : Prop where
  live : Live base P N e Bv y W
  blk : ∀ i, i < N → ∃ cs, Blk W (y.rb i) cs 3
  lr : ∀ i, i < N → base ≤ y.rb i
  rr : ∀ i k, i < N → k < N → i ≠ k → y.rb k ≠ y.rb i
  rd : ∀ i k q, i < N → k < N → q < N → e.told k q = true → y.db k q ≠ y.rb i

theorem LiveR.below (h : LiveR base P N e Bv y W) (hb : Below W.heap.size W W') : LiveR base P N e Bv y W' :=
  ⟨h.live.below hb, fun i hi => by obtain ⟨cs, hc⟩ := h.blk i hi; exact ⟨cs, hc.below hb hc.lt⟩, h.lr, h.rr, h.rd⟩
theorem LiveR.rebox (h : LiveR base P N e Bv y W) : LiveR base W.heap.size N e Bv y (W.alloc (.cells #[.slice (some ⟨y.G, 0, none⟩) N y.gc, Bv] 31)) :=
  ⟨h.live.rebox, fun i hi => by obtain ⟨cs, hc⟩ := h.blk i hi; exact ⟨cs, hc.alloc _⟩, h.lr, h.rr, h.rd⟩
theorem LiveR.congr (h : LiveR base P N e Bv y W) (hR : ∀ i j, i < N → j < N → e.R i j = e'.R i j) (ht : ∀ i k, i < N → k < N → e.told i k = e'.told i k) (hD : ∀ i k j, i < N → k < N → j < N → e.told i k = true → e.D i k j = e'.D i k j) (hb : e.bag = e'.bag) : LiveR base P N e' Bv y W :=
  ⟨h.live.congr hR ht hD hb, h.blk, h.lr, h.rr, fun i k q hi hk hq h1 => h.rd i k q hi hk hq (by rw [ht k q hk hq]; exact h1)⟩

/-- One route is set. -/
theorem LiveR.setRoute (h : LiveR base P N e Bv y W) {i j : Nat} (hi : i < N) (hj : j < N) (z : Int) :
    LiveR base P N { e with R := fun r c => if r = i ∧ c = j then z else e.R r c } Bv y (W.setCell ⟨y.rb i, j, none⟩ (.int .i64 z)) := by
  have hl := h.live
  obtain ⟨ho, hc⟩ := hl.routes i hi
  obtain ⟨cs, hb⟩ := h.blk i hi
  have hjs : j < cs.size := by
    have := hc j hj
    rw [hb.cell j] at this
    exact (Array.getElem?_eq_some_iff.1 this).1
  have hws : (W.setCell ⟨y.rb i, j, none⟩ (.int .i64 z)).heap.size = W.heap.size := by simp
  have off : ∀ b, y.Off P N Bv W b → y.Off P N Bv (W.setCell ⟨y.rb i, j, none⟩ (.int .i64 z)) b := fun b hb => ⟨hb.p, hb.g, hb.t, hb.v, by rw [hws]; exact hb.lt, hb.lo⟩
  refine ⟨⟨hl.head.other (Ne.symm ho.p) _ _, hl.rtrs.other (Ne.symm ho.g) _ _, hl.r0, hl.r1, fun r hr => (hl.tolds r hr).other (Ne.symm (ho.t r hr)) _ _, hl.t0, fun r hr => ⟨off _ (hl.routes r hr).1, fun c hc' => ?_⟩, fun r hr k hk ht => ⟨(hl.rows r hr k hk ht).1, off _ (hl.rows r hr k hk ht).2.1, fun c hc' => ?_⟩, ownsRow_setCell_other hl.bag ho.v _, hl.lp, hl.lg, hl.lt, hl.pg, hl.pt, hl.gt, hl.tt, hl.bv, hl.ylo⟩, fun r hr => ?_, h.lr, h.rr, h.rd⟩
  · show World.cell? _ ⟨y.rb r, c, none⟩ = some (.int .i64 (if r = i ∧ c = j then z else e.R r c))
    by_cases e1 : r = i
    · subst e1
      by_cases e2 : c = j
      · subst e2
        rw [if_pos ⟨rfl, rfl⟩, (hb.set c (.int .i64 z)).cell c, Array.getElem?_setIfInBounds_self_of_lt hjs]
      · rw [if_neg (fun hh => e2 hh.2), (hb.set j (.int .i64 z)).cell c, Array.getElem?_setIfInBounds_ne (fun hh => e2 hh.symm), ← hb.cell c]
        exact hc c hc'
    · rw [if_neg (fun hh => e1 hh.1), cell_other (h.rr i r hi hr (fun hh => e1 hh.symm))]
      exact (hl.routes r hr).2 c hc'
  · rw [cell_other (h.rd i r k hi hr hk ht)]
    exact (hl.rows r hr k hk ht).2.2 c hc'
  · by_cases e1 : r = i
    · subst e1; exact ⟨_, hb.set _ _⟩
    · obtain ⟨cs', hb'⟩ := h.blk r hr
      exact ⟨cs', hb'.other (h.rr i r hi hr (fun hh => e1 hh.symm)) _ _⟩
end

/-- Routers as cells. -/
def rtrV (y : Lay) (N i : Nat) : List Value := [.slice (some ⟨y.rb i, 0, none⟩) N (y.rc i), .slice (some ⟨y.Tb i, 0, none⟩) N (y.Tc i)]
def rtrsV (y : Lay) (N : Nat) : Nat → List Value
  | 0 => []
  | k + 1 => rtrsV y N k ++ rtrV y N k
theorem rtrsV_len (y : Lay) (N : Nat) : ∀ k, (rtrsV y N k).length = k * 2
  | 0 => rfl
  | k + 1 => by show (rtrsV y N k ++ rtrV y N k).length = _; rw [List.length_append, rtrsV_len y N k]; simp [rtrV]; omega
theorem rtrsV_get (y : Lay) (N : Nat) : ∀ k i, i < k → (rtrsV y N k)[i * 2]? = some (.slice (some ⟨y.rb i, 0, none⟩) N (y.rc i)) ∧ (rtrsV y N k)[i * 2 + 1]? = some (.slice (some ⟨y.Tb i, 0, none⟩) N (y.Tc i))
  | 0, i, h => absurd h (Nat.not_lt_zero _)
  | k + 1, i, h => by
    show (rtrsV y N k ++ rtrV y N k)[i * 2]? = _ ∧ (rtrsV y N k ++ rtrV y N k)[i * 2 + 1]? = _
    have hl := rtrsV_len y N k
    by_cases e : i = k
    · subst e
      rw [List.getElem?_append_right (by omega), List.getElem?_append_right (by omega), hl]
      refine ⟨?_, ?_⟩
      · rw [Nat.sub_self]; rfl
      · rw [show i * 2 + 1 - i * 2 = 1 by omega]; rfl
    · rw [List.getElem?_append_left (by omega), List.getElem?_append_left (by omega)]
      exact rtrsV_get y N k i (by omega)
theorem rtrsV_congr {y y' : Lay} {N : Nat} : ∀ {k : Nat}, (∀ i, i < k → y.rb i = y'.rb i ∧ y.rc i = y'.rc i ∧ y.Tb i = y'.Tb i ∧ y.Tc i = y'.Tc i) → rtrsV y N k = rtrsV y' N k
  | 0, _ => rfl
  | k + 1, h => by
    show rtrsV y N k ++ rtrV y N k = rtrsV y' N k ++ rtrV y' N k
    obtain ⟨h1, h2, h3, h4⟩ := h k (by omega)
    rw [rtrsV_congr (k := k) (fun i hi => h i (by omega))]
    simp only [rtrV, h1, h2, h3, h4]

/-- So many routers are copied, all in blocks below hi. -/
structure RCop (base hi N : Nat) (e : Eng) (y : Lay) (V : Value) (k : Nat) (W : World) : Prop where
  rtrs : W.ownsRow base 59 2 V k (rtrsV y N k)
  tolds : ∀ i, i < k → Blk W (y.Tb i) (y.vt i) 32 ∧ base ≤ y.Tb i ∧ y.Tb i < hi
  t0 : ∀ i, i < k → ∀ q, q < N → (y.vt i)[q]? = some (.slice (y.ta i q) (if e.told i q = true then N else 0) (y.tc i q))
  routes : ∀ i, i < k → (∃ cs, Blk W (y.rb i) cs 3) ∧ base ≤ y.rb i ∧ y.rb i < hi ∧ ∀ j, j < N → W.cell? ⟨y.rb i, j, none⟩ = some (.int .i64 (e.R i j))
  rows : ∀ i, i < k → ∀ q, q < N → e.told i q = true → y.ta i q = some ⟨y.db i q, y.dn i q, none⟩ ∧ (∃ cs, Blk W (y.db i q) cs 3) ∧ (y.db i q < hi ∧ base ≤ y.db i q) ∧ ∀ j, j < N → W.cell? ⟨y.db i q, y.dn i q + j, none⟩ = some (.int .i64 (e.D i q j))
  tt : ∀ i q, i < k → q < k → i ≠ q → y.Tb i ≠ y.Tb q
  rr : ∀ i q, i < k → q < k → i ≠ q → y.rb q ≠ y.rb i
  rd : ∀ i p q, i < k → p < k → q < N → e.told p q = true → y.db p q ≠ y.rb i

section
variable {base hi N : Nat} {e : Eng} {y : Lay} {V : Value} {k : Nat} {W W' : World}

theorem RCop.nil (base hi N : Nat) (e : Eng) (y : Lay) (W : World) : RCop base hi N e y (.slice none 0 0) 0 W :=
  ⟨World.ownsRow_nil W base _ 2, fun _ h => absurd h (Nat.not_lt_zero _), fun _ h => absurd h (Nat.not_lt_zero _), fun _ h => absurd h (Nat.not_lt_zero _), fun _ h => absurd h (Nat.not_lt_zero _), fun _ _ h => absurd h (Nat.not_lt_zero _), fun _ _ h => absurd h (Nat.not_lt_zero _), fun _ _ _ h => absurd h (Nat.not_lt_zero _)⟩

theorem kept_cell {row : Option Nat} {b : Nat} {cs : Array Value} {t : TypeId} (hb : Blk W b cs t) (hg : W.grownBy W' row) (hne : some b ≠ row) (j : Nat) : W'.cell? ⟨b, j, none⟩ = W.cell? ⟨b, j, none⟩ := by
  rw [(hb.kept hg hne).cell j, hb.cell j]

/-- The rows of ints and of rows stay as they were while another block grows. -/
theorem RCop.kept (h : RCop base hi N e y V k W) {row : Option Nat} (hg : W.grownBy W' row) (hne : ∀ b cs t, b < hi → Blk W b cs t → t = 3 ∨ t = 32 → some b ≠ row) {V' : Value} (hr : W'.ownsRow base 59 2 V' k (rtrsV y N k)) : RCop base hi N e y V' k W' :=
  ⟨hr, fun i hi => ⟨(h.tolds i hi).1.kept hg (hne _ _ _ (h.tolds i hi).2.2 (h.tolds i hi).1 (Or.inr rfl)), (h.tolds i hi).2⟩, h.t0, fun i hi => by
      obtain ⟨⟨cs, h1⟩, h2, h3, h4⟩ := h.routes i hi
      exact ⟨⟨cs, h1.kept hg (hne _ _ _ h3 h1 (Or.inl rfl))⟩, h2, h3, fun j hj => by rw [kept_cell h1 hg (hne _ _ _ h3 h1 (Or.inl rfl))]; exact h4 j hj⟩, fun i hi q hq ht => by
      obtain ⟨h0, ⟨cs, h1⟩, h3, h4⟩ := h.rows i hi q hq ht
      exact ⟨h0, ⟨cs, h1.kept hg (hne _ _ _ h3.1 h1 (Or.inl rfl))⟩, h3, fun j hj => by rw [kept_cell h1 hg (hne _ _ _ h3.1 h1 (Or.inl rfl))]; exact h4 j hj⟩, h.tt, h.rr, h.rd⟩
theorem RCop.below (h : RCop base hi N e y V k W) (hb : Below W.heap.size W W') : RCop base hi N e y V k W' :=
  h.kept (below_grown hb) (fun _ _ _ _ _ _ => by simp) (owns_below h.rtrs hb)
theorem RCop.mono (h : RCop base hi N e y V k W) {hi' : Nat} (hh : hi ≤ hi') : RCop base hi' N e y V k W :=
  ⟨h.rtrs, fun i hi => ⟨(h.tolds i hi).1, (h.tolds i hi).2.1, Nat.lt_of_lt_of_le (h.tolds i hi).2.2 hh⟩, h.t0, fun i hi => ⟨(h.routes i hi).1, (h.routes i hi).2.1, Nat.lt_of_lt_of_le (h.routes i hi).2.2.1 hh, (h.routes i hi).2.2.2⟩, fun i hi q hq ht => ⟨(h.rows i hi q hq ht).1, (h.rows i hi q hq ht).2.1, ⟨Nat.lt_of_lt_of_le (h.rows i hi q hq ht).2.2.1.1 hh, (h.rows i hi q hq ht).2.2.1.2⟩, (h.rows i hi q hq ht).2.2.2⟩, h.tt, h.rr, h.rd⟩
/-- A store into a block that holds neither ints, rows nor routers. -/
theorem RCop.set (h : RCop base hi N e y V k W) {p j : Nat} {cs : Array Value} {t : TypeId} (hp : Blk W p cs t) (h1 : t ≠ 3) (h2 : t ≠ 32) (h3 : V.ownBlock ≠ some p) (v : Value) : RCop base hi N e y V k (W.setCell ⟨p, j, none⟩ v) :=
  ⟨ownsRow_setCell_other h.rtrs h3 _, fun i hi => ⟨(h.tolds i hi).1.other (type_ne (h.tolds i hi).1 hp (Ne.symm h2)) _ _, (h.tolds i hi).2⟩, h.t0, fun i hi => by
      obtain ⟨⟨cs', q1⟩, q2, q3, q4⟩ := h.routes i hi
      have hne := type_ne q1 hp (Ne.symm h1)
      exact ⟨⟨cs', q1.other hne _ _⟩, q2, q3, fun j hj => by rw [cell_other hne]; exact q4 j hj⟩, fun i hi q hq ht => by
      obtain ⟨h0, ⟨cs', q1⟩, q3, q4⟩ := h.rows i hi q hq ht
      have hne := type_ne q1 hp (Ne.symm h1)
      exact ⟨h0, ⟨cs', q1.other hne _ _⟩, q3, fun j hj => by rw [cell_other hne]; exact q4 j hj⟩, h.tt, h.rr, h.rd⟩

/-- What is told to one router, row by row, from H on. -/
def toldV (N : Nat) (told : Nat → Bool) (ta : Nat → Option Addr) (tc : Nat → Nat) (q : Nat) : List Value := (List.range q).map fun p => Value.slice (ta p) (if told p = true then N else 0) (tc p)
theorem toldV_get {N : Nat} {told : Nat → Bool} {ta : Nat → Option Addr} {tc : Nat → Nat} {q p : Nat} (h : p < q) : (toldV N told ta tc q)[p]? = some (.slice (ta p) (if told p = true then N else 0) (tc p)) := by simp [toldV, h]
theorem toldV_succ (N : Nat) (told : Nat → Bool) (ta : Nat → Option Addr) (tc : Nat → Nat) (q : Nat) (a : Option Addr) (c : Nat) : toldV N told (fun p => if p = q then a else ta p) (fun p => if p = q then c else tc p) (q + 1) = toldV N told ta tc q ++ [.slice a (if told q = true then N else 0) c] := by
  unfold toldV
  rw [List.range_succ, List.map_append]
  congr 1
  · apply List.map_congr_left
    intro p hp
    have : p ≠ q := by have := List.mem_range.1 hp; omega
    simp [this]
  · simp
structure RTold (H N : Nat) (told : Nat → Bool) (D : Nat → Nat → Int) (V : Value) (q : Nat) (W : World) : Prop where
  ex : ∃ (ta : Nat → Option Addr) (tc db : Nat → Nat), W.ownsRow H 32 1 V q (toldV N told ta tc q) ∧ ∀ p, p < q → told p = true → ta p = some ⟨db p, 0, none⟩ ∧ (∃ cs, Blk W (db p) cs 3) ∧ H ≤ db p ∧ ∀ j, j < N → W.cell? ⟨db p, j, none⟩ = some (.int .i64 (D p j))
theorem RTold.nil (H N : Nat) (told : Nat → Bool) (D : Nat → Nat → Int) (W : World) : RTold H N told D (.slice none 0 0) 0 W :=
  ⟨fun _ => none, fun _ => 0, fun _ => 0, World.ownsRow_nil W H _ 1, fun _ h => absurd h (Nat.not_lt_zero _)⟩
theorem RTold.below {H N : Nat} {told : Nat → Bool} {D : Nat → Nat → Int} {V : Value} {q : Nat} (h : RTold H N told D V q W) (hb : Below W.heap.size W W') : RTold H N told D V q W' := by
  obtain ⟨ta, tc, db, h1, h2⟩ := h.ex
  refine ⟨ta, tc, db, owns_below h1 hb, fun p hp ht => ?_⟩
  obtain ⟨q1, ⟨cs, q2⟩, q3, q4⟩ := h2 p hp ht
  exact ⟨q1, ⟨cs, q2.below hb q2.lt⟩, q3, fun j hj => by rw [hb.cell (p := ⟨db p, j, none⟩) q2.lt]; exact q4 j hj⟩
/-- A store into a block that holds neither ints nor rows. -/
theorem RTold.set {H N : Nat} {told : Nat → Bool} {D : Nat → Nat → Int} {V : Value} {q : Nat} (h : RTold H N told D V q W) {p j : Nat} {cs : Array Value} {t : TypeId} (hp : Blk W p cs t) (h1 : t ≠ 3) (h2 : t ≠ 32) (v : Value) : RTold H N told D V q (W.setCell ⟨p, j, none⟩ v) := by
  obtain ⟨ta, tc, db, k1, k2⟩ := h.ex
  refine ⟨ta, tc, db, ownsRow_setCell_other k1 (fun hv => own_ne k1 hp (Ne.symm h2) hv rfl) _, fun p' hp' ht => ?_⟩
  obtain ⟨q1, ⟨cs', q2⟩, q3, q4⟩ := k2 p' hp' ht
  have hne := type_ne q2 hp (Ne.symm h1)
  exact ⟨q1, ⟨cs', q2.other hne _ _⟩, q3, fun j hj => by rw [cell_other hne]; exact q4 j hj⟩

/-- The append of rows, run ahead: one row more of what was told. -/
theorem RTold.push {H N : Nat} {told : Nat → Bool} {D : Nat → Nat → Int} {V : Value} {q : Nat} (h : RTold H N told D V q W) (hq : q ≤ 100) (hH : H ≤ W.heap.size) {a : Option Addr} {l c b : Nat} (hl : l = if told q = true then N else 0) (hi : Ints a l b 0 (D q) W) (hb : 0 < l → (∃ cs, Blk W b cs 3) ∧ H ≤ b) (hN : 0 < N) {s : Nat} (hs : Blk W s #[.slice a l c] 32) (ty : TypeId) :
    ∃ g cap W', (Builtin.append_ #[22, 22] ty #[V, .slice (some ⟨s, 0, none⟩) 1 1]).run Tryz.prog W = .ok (.slice (some ⟨g, 0, none⟩) (q + 1) cap) W' ∧ RTold H N told D (.slice (some ⟨g, 0, none⟩) (q + 1) cap) (q + 1) W' ∧ W.grownBy W' V.ownBlock ∧ (∀ b, V.ownBlock = some b → H ≤ b) := by
  obtain ⟨ta, tc, db, k1, k2⟩ := h.ex
  obtain ⟨i2, hi2, hx0, hx1, hx2⟩ := info_parts Tryz.infoInts
  obtain ⟨g, cap, w', hr, h2, h3, _, _⟩ := run_append_lies (P := Tryz.prog) W 22 ty H 32 i2 _ 1 24 Tryz.underlying22 hi2 hx0 hx1 hx2 rfl (by decide) V q _ k1 ⟨s, 0, none⟩ 1 1 [.slice a l c] rfl (World.news_of_block hs) (by simp [Value.oneCell']) (by decide) (by unfold maxLen; omega) (by omega) hH _ rfl
  refine ⟨g, cap, w', hr, ⟨fun p => if p = q then a else ta p, fun p => if p = q then c else tc p, fun p => if p = q then b else db p, ?_, fun p hp ht => ?_⟩, h3, fun b hb => (k1.lt b hb).1⟩
  · rw [toldV_succ, ← hl]; exact h2
  · have keep : ∀ b cs, Blk W b cs 3 → some b ≠ V.ownBlock := fun b cs hb' hv => own_ne k1 hb' (by decide) hv.symm rfl
    by_cases e : p = q
    · subst e
      have hlN : l = N := by rw [hl, if_pos ht]
      simp only [if_true]
      obtain ⟨⟨cs, hb1⟩, hb2⟩ := hb (by omega)
      refine ⟨hi.addr (by omega), ⟨cs, hb1.kept h3 (keep _ _ hb1)⟩, hb2, fun j hj => ?_⟩
      rw [kept_cell hb1 h3 (keep _ _ hb1)]
      have := hi.cell j (by omega)
      rwa [Nat.zero_add] at this
    · simp only [if_neg e]
      obtain ⟨q1, ⟨cs, q2⟩, q3, q4⟩ := k2 p (by omega) ht
      exact ⟨q1, ⟨cs, q2.kept h3 (keep _ _ q2)⟩, q3, fun j hj => by rw [kept_cell q2 h3 (keep _ _ q2)]; exact q4 j hj⟩

/-- The next router is there: its routes, and what it was told. -/
theorem RCop.push {H : Nat} (h : RCop base H N e y V k W) (hb : base ≤ H) {b c : Nat} (hbk : ∃ cs, Blk W b cs 3) (hbH : H ≤ b) (hbc : ∀ j, j < N → W.cell? ⟨b, j, none⟩ = some (.int .i64 (e.R k j)))
    {H1 : Nat} (hb1 : b < H1) {g cap : Nat} (ht : RTold H1 N (e.told k) (e.D k) (.slice (some ⟨g, 0, none⟩) N cap) N W)
    {V' : Value} (hown : W'.ownsRow base 59 2 V' (k + 1) (rtrsV y N k ++ [.slice (some ⟨b, 0, none⟩) N c, .slice (some ⟨g, 0, none⟩) N cap])) (hg : W.grownBy W' V.ownBlock) :
    ∃ y', RCop base W'.heap.size N e y' V' (k + 1) W' := by
  obtain ⟨ta, tc, db, k1, k2⟩ := ht.ex
  obtain ⟨bcs, hbk⟩ := hbk
  obtain ⟨gcs, hgk, hgl⟩ : ∃ cs, Blk W g cs 32 ∧ ∀ q, q < N → cs[q]? = some (.slice (ta q) (if e.told k q = true then N else 0) (tc q)) := by
    obtain ⟨_, h2⟩ := id k1
    rcases h2 with ⟨e0, _⟩ | ⟨g', cap', cur, e1, _, hgb, _⟩
    · cases e0
    · obtain ⟨rfl, rfl⟩ : g = g' ∧ cap = cap' := by simpa using e1
      refine ⟨cur, hgb, fun q hq => ?_⟩
      have := k1.cellAt q (by omega)
      rw [(show Blk W g cur 32 from hgb).cell q, toldV_get hq] at this
      exact this
  have hgH : H1 ≤ g := (k1.lt g rfl).1
  have ne : ∀ q cs t, Blk W q cs t → t = 3 ∨ t = 32 → some q ≠ V.ownBlock := fun q cs t hq ht' hv => own_ne h.rtrs hq (by rcases ht' with rfl | rfl <;> decide) hv.symm rfl
  have hsz := hg.size
  obtain ⟨y', hy'⟩ : ∃ y' : Lay, y' = { y with rb := fun r => if r = k then b else y.rb r, rc := fun r => if r = k then c else y.rc r, Tb := fun r => if r = k then g else y.Tb r, Tc := fun r => if r = k then cap else y.Tc r, vt := fun r => if r = k then gcs else y.vt r, ta := fun r q => if r = k then ta q else y.ta r q, tc := fun r q => if r = k then tc q else y.tc r q, db := fun r q => if r = k then db q else y.db r q, dn := fun r q => if r = k then 0 else y.dn r q } := ⟨_, rfl⟩
  have erb : ∀ r, y'.rb r = if r = k then b else y.rb r := fun r => by rw [hy']
  have eTb : ∀ r, y'.Tb r = if r = k then g else y.Tb r := fun r => by rw [hy']
  have evt : ∀ r, y'.vt r = if r = k then gcs else y.vt r := fun r => by rw [hy']
  have eta : ∀ r q, y'.ta r q = if r = k then ta q else y.ta r q := fun r q => by rw [hy']
  have etc : ∀ r q, y'.tc r q = if r = k then tc q else y.tc r q := fun r q => by rw [hy']
  have edb : ∀ r q, y'.db r q = if r = k then db q else y.db r q := fun r q => by rw [hy']
  have edn : ∀ r q, y'.dn r q = if r = k then 0 else y.dn r q := fun r q => by rw [hy']
  refine ⟨y', ?_, fun i hi => ?_, fun i hi q hq => ?_, fun i hi => ?_, fun i hi q hq hto => ?_, fun i q hi hq hne => ?_, fun i q hi hq hne => ?_, fun i p q hi hp hq hto => ?_⟩
  · show W'.ownsRow base 59 2 V' (k + 1) (rtrsV y' N k ++ rtrV y' N k)
    have e1 : rtrsV y' N k = rtrsV y N k := rtrsV_congr (fun i hi => by rw [hy']; simp [Nat.ne_of_lt hi])
    have e2 : rtrV y' N k = [.slice (some ⟨b, 0, none⟩) N c, .slice (some ⟨g, 0, none⟩) N cap] := by rw [hy']; simp [rtrV]
    rw [e1, e2]; exact hown
  · rw [eTb, evt]
    by_cases e1 : i = k
    · rw [if_pos e1, if_pos e1]
      have := hgk.kept hg (ne _ _ _ hgk (Or.inr rfl))
      exact ⟨this, by omega, this.lt⟩
    · rw [if_neg e1, if_neg e1]
      obtain ⟨q1, q2, q3⟩ := h.tolds i (by omega)
      have := q1.kept hg (ne _ _ _ q1 (Or.inr rfl))
      exact ⟨this, q2, this.lt⟩
  · rw [evt, eta, etc]
    by_cases e1 : i = k
    · rw [if_pos e1, if_pos e1, if_pos e1, e1]; exact hgl q hq
    · rw [if_neg e1, if_neg e1, if_neg e1]; exact h.t0 i (by omega) q hq
  · rw [erb]
    by_cases e1 : i = k
    · rw [if_pos e1, e1]
      have := hbk.kept hg (ne _ _ _ hbk (Or.inl rfl))
      exact ⟨⟨_, this⟩, by omega, this.lt, fun j hj => by rw [kept_cell hbk hg (ne _ _ _ hbk (Or.inl rfl))]; exact hbc j hj⟩
    · rw [if_neg e1]
      obtain ⟨⟨cs, q1⟩, q2, q3, q4⟩ := h.routes i (by omega)
      have := q1.kept hg (ne _ _ _ q1 (Or.inl rfl))
      exact ⟨⟨_, this⟩, q2, this.lt, fun j hj => by rw [kept_cell q1 hg (ne _ _ _ q1 (Or.inl rfl))]; exact q4 j hj⟩
  · rw [eta, edb, edn]
    by_cases e1 : i = k
    · rw [e1] at hto
      rw [if_pos e1, if_pos e1, if_pos e1, e1]
      obtain ⟨q1, ⟨cs, q2⟩, q3, q4⟩ := k2 q hq hto
      have := q2.kept hg (ne _ _ _ q2 (Or.inl rfl))
      exact ⟨q1, ⟨_, this⟩, ⟨this.lt, by omega⟩, fun j hj => by rw [Nat.zero_add, kept_cell q2 hg (ne _ _ _ q2 (Or.inl rfl))]; exact q4 j hj⟩
    · simp only [if_neg e1]
      obtain ⟨q1, ⟨cs, q2⟩, q3, q4⟩ := h.rows i (by omega) q hq hto
      have := q2.kept hg (ne _ _ _ q2 (Or.inl rfl))
      exact ⟨q1, ⟨_, this⟩, ⟨this.lt, q3.2⟩, fun j hj => by rw [kept_cell q2 hg (ne _ _ _ q2 (Or.inl rfl))]; exact q4 j hj⟩
  · rw [eTb, eTb]
    by_cases e1 : i = k
    · rw [if_pos e1, if_neg (by omega)]
      have := (h.tolds q (by omega)).2.2; omega
    · rw [if_neg e1]
      by_cases e2 : q = k
      · rw [if_pos e2]; have := (h.tolds i (by omega)).2.2; omega
      · rw [if_neg e2]; exact h.tt i q (by omega) (by omega) hne
  · rw [erb, erb]
    by_cases e1 : i = k
    · rw [if_pos e1, if_neg (by omega)]
      have := (h.routes q (by omega)).2.2.1; omega
    · rw [if_neg e1]
      by_cases e2 : q = k
      · rw [if_pos e2]; have := (h.routes i (by omega)).2.2.1; omega
      · rw [if_neg e2]; exact h.rr i q (by omega) (by omega) hne
  · rw [erb, edb]
    by_cases e2 : p = k
    · rw [e2] at hto
      rw [if_pos e2]
      have q3 := (k2 q hq hto).2.2.1
      by_cases e1 : i = k
      · rw [if_pos e1]; omega
      · rw [if_neg e1]; have := (h.routes i (by omega)).2.2.1; omega
    · rw [if_neg e2]
      have q3 := (h.rows p (by omega) q hq hto).2.2.1.1
      by_cases e1 : i = k
      · rw [if_pos e1]; omega
      · rw [if_neg e1]; exact h.rd i p q (by omega) (by omega) hq hto

/-- All routers are there, the bag too: an engine that may be changed. -/
theorem RCop.live {P : Nat} {Bv : Value} (h : RCop base hi N e y V N W) (hN : 0 < N) (hP : Blk W P #[V, Bv] 31) (hbP : base ≤ P) (hbag : W.ownsRow base 69 3 Bv e.bag.length (mailsL e.bag)) :
    ∃ y', LiveR base P N e Bv y' W ∧ V = .slice (some ⟨y'.G, 0, none⟩) N y'.gc := by
  have hown := h.rtrs
  obtain ⟨g, cap, cur, rfl, hgk, hgb⟩ : ∃ g cap cur, V = .slice (some ⟨g, 0, none⟩) N cap ∧ Blk W g cur 59 ∧ base ≤ g := by
    obtain ⟨_, h2⟩ := id hown
    rcases h2 with ⟨_, e0⟩ | ⟨g', cap', cur, e1, hb', hgb, _⟩
    · omega
    · exact ⟨g', cap', cur, e1, hgb, hb'⟩
  have hcur : ∀ j, j < N * 2 → cur[j]? = (rtrsV y N N)[j]? := fun j hj => by rw [← hgk.cell j]; exact hown.cellAt j hj
  refine ⟨{ y with G := g, gc := cap, vs := cur, lo := base }, ⟨⟨hP, hgk, fun i hi => ?_, fun i hi => ?_, fun i hi => (h.tolds i hi).1, h.t0, fun i hi => ?_, fun i hi k hk ht => ?_, hbag, hbP, hgb, fun i hi => (h.tolds i hi).2.1, type_ne hP hgk (by decide), fun i hi => type_ne hP (h.tolds i hi).1 (by decide), fun i hi => type_ne hgk (h.tolds i hi).1 (by decide), h.tt, fun q hq => ?_, ⟨Nat.le_refl _, hbP⟩⟩, fun i hi => (h.routes i hi).1, fun i hi => (h.routes i hi).2.1, h.rr, h.rd⟩, rfl⟩
  · show cur[i * 2]? = _
    rw [hcur _ (by omega)]; exact (rtrsV_get y N N i hi).1
  · show cur[i * 2 + 1]? = _
    rw [hcur _ (by omega)]; exact (rtrsV_get y N N i hi).2
  · obtain ⟨⟨cs, q1⟩, q2, q3, q4⟩ := h.routes i hi
    exact ⟨⟨type_ne q1 hP (by decide), type_ne q1 hgk (by decide), fun k hk => type_ne q1 (h.tolds k hk).1 (by decide), fun hv => own_ne hbag q1 (by decide) hv rfl, q1.lt, q2⟩, q4⟩
  · obtain ⟨h0, ⟨cs, q1⟩, q3, q4⟩ := h.rows i hi k hk ht
    exact ⟨h0, ⟨type_ne q1 hP (by decide), type_ne q1 hgk (by decide), fun k hk => type_ne q1 (h.tolds k hk).1 (by decide), fun hv => own_ne hbag q1 (by decide) hv rfl, q1.lt, q3.2⟩, q4⟩
  · exact ⟨own_ne hbag hP (by decide) hq, own_ne hbag hgk (by decide) hq, fun i hi => own_ne hbag (h.tolds i hi).1 (by decide) hq⟩
end

section
variable {base P N : Nat} {e : Eng} {Bv : Value} {y : Lay} {W W' : World}

theorem Live.mono (h : Live base P N e Bv y W) {lo : Nat} (hl : lo ≤ base) : Live lo P N e Bv y W :=
  ⟨h.head, h.rtrs, h.r0, h.r1, h.tolds, h.t0, h.routes, h.rows, Go.Joins.ownsRow_le h.bag hl, Nat.le_trans hl h.lp, Nat.le_trans hl h.lg, fun i hi => Nat.le_trans hl (h.lt i hi), h.pg, h.pt, h.gt, h.tt, h.bv, ⟨Nat.le_trans hl h.ylo.1, h.ylo.2⟩⟩
theorem LiveR.mono (h : LiveR base P N e Bv y W) {lo : Nat} (hl : lo ≤ base) : LiveR lo P N e Bv y W :=
  ⟨h.live.mono hl, h.blk, fun i hi => Nat.le_trans hl (h.lr i hi), h.rr, h.rd⟩
/-- The bag is another one, that lies anew. -/
theorem LiveR.setBag (h : LiveR base P N e Bv y W) {Bv' : Value} {l : List Mail} (hb : Below W.heap.size W W') (hown : W'.ownsRow W.heap.size 69 3 Bv' l.length (mailsL l)) :
    LiveR base P N { e with bag := l } Bv' y (W'.setCell ⟨P, 1, none⟩ Bv') := by
  have hbw : base ≤ W.heap.size := Nat.le_of_lt (Nat.lt_of_le_of_lt h.live.lp h.live.head.lt)
  refine ⟨h.live.setBag ⟨hb.os, hb.tape, hb.output, hb.size, fun i hi _ => hb.block i hi⟩ (Go.Joins.ownsRow_le hown hbw) (fun g hg => Or.inr (hown.lt g hg).1), fun i hi => ?_, h.lr, h.rr, h.rd⟩
  obtain ⟨cs, hc⟩ := h.blk i hi
  exact ⟨cs, (hc.below hb hc.lt).other (h.live.routes i hi).1.p _ _⟩
end

/-- A result is set, below all that the engine is. -/
theorem LiveR.setRes {base P N : Nat} {e : Eng} {Bv : Value} {y : Lay} {W : World} (h : LiveR base P N e Bv y W) (hN0 : 0 < N) {q : Nat} {t : TypeId} (hq : q < base) (hb : Blk W q #[.slice none 0 0, .slice none 0 0] t) (u v : Value) :
    LiveR base P N e Bv y ((W.setCell ⟨q, 0, none⟩ u).setCell ⟨q, 1, none⟩ v) := by
  refine ⟨h.live.setRes hN0 hq hb u v, fun i hi => ?_, h.lr, h.rr, h.rd⟩
  obtain ⟨cs, hc⟩ := h.blk i hi
  have hne : y.rb i ≠ q := by have := h.lr i hi; omega
  exact ⟨cs, (hc.other hne _ _).other hne _ _⟩

end Go.Proofs.YtjhkadffaephmabGreat
