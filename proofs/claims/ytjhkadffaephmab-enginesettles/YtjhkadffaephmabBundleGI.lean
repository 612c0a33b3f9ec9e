/-
  Our own texts, bundled: a claim holds few files.
-/
import Derived.Test.YtjhkadffaephmabBundleGA
import Derived.Test.YtjhkadffaephmabBundleGE
/-
  engine.deliverAll.
-/
namespace Go.Proofs.Ytjhkadffaephmab
set_option maxRecDepth 100000
open Go.RowKit

/-- How many are on their way, by the head's second cell. -/
def bagLen (P : Nat) (W : World) : Nat := match W.cell? ⟨P, 1, none⟩ with
  | some (.slice _ l _) => l
  | _ => 0

structure AllI (n : NetM) (base P N b2 : Nat) (e0 e : Eng) (Bv : Value) (y : Lay) (w W : World) : Prop where
  live : Live base P N e Bv y W
  fit : e.Fit n.net
  same : e.comes n.net = e0.comes n.net
  net : Blk W b2 n.cells 41
  off : y.Off P N Bv W b2
  below : Below base w W

theorem comes_deliver {n : Net} {e : Eng} (h : 0 < e.bag.length) : (e.deliver n 0).comes n = e.comes n := by
  unfold Eng.comes
  have hl : (e.deliver n 0).bag.length = e.bag.length - 1 := by
    rw [Eng.deliver_bag, List.length_eraseIdx, if_pos h]
  rw [hl]
  obtain ⟨k, hk⟩ : ∃ k, e.bag.length = k + 1 := ⟨e.bag.length - 1, by omega⟩
  rw [hk]
  rfl
theorem bagLen_live {base P N : Nat} {e : Eng} {Bv : Value} {y : Lay} {W : World} (h : Live base P N e Bv y W) : bagLen P W = e.bag.length := by
  have x1 := h.head.cell 1
  obtain ⟨ba, bc, hBv⟩ : ∃ ba bc, Bv = .slice ba e.bag.length bc := by
    rcases Go.Joins.ownsRow_forms h.bag with ⟨e0, e2⟩ | ⟨g, cap, e2⟩
    · exact ⟨none, 0, by rw [e0, e2]⟩
    · exact ⟨_, _, e2⟩
  simp at x1
  rw [hBv] at x1
  unfold bagLen
  rw [x1]

set_option maxHeartbeats 2000000 in
theorem deliverAll_any (n : NetM) (base P N : Nat) (e : Eng) (Bv : Value) (y : Lay) (w : World) (h : n.In base w) (hck : n.net.check = 0) (hN : n.nodes = N) (hL : Live base P N e Bv y w) (hfit : e.Fit n.net) :
    Calls Try.prog 80 #[n.val, .pointer (some ⟨P, 0, none⟩)] w fun r w' => r = .returned (.tuple #[]) ∧ (∃ Bv' y', Live base P N (e.comes n.net) Bv' y' w') ∧ Below base w w' := by
  have g := Net.good_of_check hck
  have hbw : base ≤ w.heap.size := Nat.le_of_lt (Nat.lt_of_le_of_lt hL.lp hL.head.lt)
  have hcells : n.cells = #[.int .i64 n.a.size, .slice n.a.B.ga n.a.B.t.len n.a.B.cap, .slice n.a.E.ga n.a.E.t.len n.a.E.cap, .int .i64 N, .slice n.la n.ln n.lc] := by simp only [NetM.cells, Mat.val, hN]
  obtain ⟨W1, hW1⟩ : ∃ W1, W1 = w.alloc (.cells n.cells 41) := ⟨_, rfl⟩
  have hB1 : Below w.heap.size w W1 := by rw [hW1]; exact (Below.refl _ w).alloc (Nat.le_refl _) _
  have b2 : Blk W1 w.heap.size n.cells 41 := by rw [hW1]; exact Blk.new w _ _
  have HI0 : Hid (∃ e1 Bv1 y1, AllI n base P N w.heap.size e e1 Bv1 y1 w W1) := hide ⟨e, Bv, y, hL.below hB1, hfit, rfl, b2, ⟨by have := hL.head.lt; omega, by have := hL.rtrs.lt; omega, fun k hk => by have := (hL.tolds k hk).lt; omega, fun hv => by have := (hL.bag.lt _ hv).2; omega, b2.lt, by have := hL.ylo; have := hL.head.lt; omega⟩, hB1.mono hbw⟩
  have H := hide h
  have HN := hide hN
  have Hcells := hide hcells
  rw [hcells] at hW1
  have HW1 := hide hW1
  rw [NetM.val, hcells]
  clear h hL hfit hbw hB1 b2 hW1 hcells hN
  go_enter Try.func80, Try.ntmps80
  go_wp2_with fail
  rw [← HW1.out]
  go_loopw [] (fun wr => Hid (∃ e1 Bv1 y1, AllI n base P N w.heap.size e e1 Bv1 y1 w wr)) (fun wr => bagLen P wr)
  case atStart => exact HI0
  case round =>
    obtain ⟨e1, Bv1, y1, hI⟩ := hrel.out
    obtain ⟨ba, bc, hBv⟩ : ∃ ba bc, Bv1 = .slice ba e1.bag.length bc := by
      rcases Go.Joins.ownsRow_forms hI.live.bag with ⟨e0, e2⟩ | ⟨g, cap, e2⟩
      · exact ⟨none, 0, by rw [e0, e2]⟩
      · exact ⟨_, _, e2⟩
    have x1 := hI.live.head.cell 1
    simp at x1
    rw [hBv] at x1
    by_cases hlt : 0 < e1.bag.length
    · have HD : Hid (Calls Try.prog 149 #[n.val, .pointer (some ⟨P, 0, none⟩), .int .i64 0] wr fun r w' => r = .returned (.tuple #[]) ∧ (∃ Bv' y', Live base P N (e1.deliver n.net 0) Bv' y' w' ∧ KeptO y1 y' P N Bv1 Bv' wr w') ∧ Below base wr w') := hide (deliver_all n base P N 0 e1 Bv1 y1 wr (H.out.below hI.below (Nat.le_refl _)) hck HN.out hI.live hI.fit hlt)
      rw [NetM.val, Hcells.out] at HD
      have z0 := hI.net.cell 0
      have z1 := hI.net.cell 1
      have z2 := hI.net.cell 2
      have z3 := hI.net.cell 3
      have z4 := hI.net.cell 4
      simp only [Hcells.out] at z0 z1 z2 z3 z4
      simp at z0 z1 z2 z3 z4
      have HI := hide hI
      have hli : (0 : Int) < (e1.bag.length : Int) := by omega
      have Hlt := hide hlt
      have HbL := hide (bagLen_live hI.live)
      obtain ⟨len, hlen⟩ : ∃ len, len = e1.bag.length := ⟨_, rfl⟩
      rw [← hlen] at x1 hli HbL
      have Hlen := hide hlen
      clear hI hBv hlt HI0 hrel hlen
      go_wp2_with fail
      go_at_call 149
      refine HD.out.mono ?_
      rintro r w2 ⟨rfl, ⟨Bv2, y2, hl2, hko⟩, hb2⟩
      obtain ⟨k1, k2⟩ := hko _ HI.out.off
      have hn2 : Blk w2 w.heap.size n.cells 41 := by
        have := HI.out.net
        unfold Blk at this ⊢
        rw [k1]; exact this
      have HI2 : Hid (∃ e1 Bv1 y1, AllI n base P N w.heap.size e e1 Bv1 y1 w w2) := hide ⟨e1.deliver n.net 0, Bv2, y2, hl2, HI.out.fit.deliver g 0, (comes_deliver Hlt.out).trans HI.out.same, hn2, k2, HI.out.below.trans hb2⟩
      have Hme : Hid (bagLen P w2 < bagLen P wr) := hide (by
        rw [bagLen_live hl2, HbL.out, Eng.deliver_bag, List.length_eraseIdx, if_pos Hlt.out]
        have := Hlen.out
        have := Hlt.out
        omega)
      clear hl2 hko hb2 k1 k2 hn2 HD HI
      go_wp2
      go_roundw
      case rel =>
        first
        | exact HI2
        | ((repeat apply Exists.intro); refine ⟨?_, rfl⟩; exact HI2)
      case measure => exact Hme.out
    · have h0 : e1.bag.length = 0 := by omega
      have hcm : e1.comes n.net = e1 := by unfold Eng.comes; rw [h0]; rfl
      have HF : Hid ((∃ Bv' y', Live base P N (e.comes n.net) Bv' y' wr) ∧ Below base w wr) := hide ⟨⟨Bv1, y1, by rw [← hI.same, hcm]; exact hI.live⟩, hI.below⟩
      rw [h0] at x1
      clear hI hBv hlt hcm HI0 hrel h0
      go_wp2
      go_end0
      exact ⟨rfl, HF.out⟩

end Go.Proofs.Ytjhkadffaephmab

/-
  engine.Calm.
-/
namespace Go.Proofs.Ytjhkadffaephmab
set_option maxRecDepth 100000
open Go.RowKit

/-- What Calm answers. -/
def CalmAns (n : Net) (x : EngM) (rd : Int) (w : World) (r : Ending) (w' : World) : Prop :=
  Below w.heap.size w w' ∧
  ((x.err n ≠ 0 ∧ r = .returned (.tuple #[zeroEng, .int .i64 (x.err n)])) ∨
   (x.err n = 0 ∧ (rd < 0 ∨ 100 < rd) ∧ r = .returned (.tuple #[zeroEng, .int .i64 3])) ∨
   (x.err n = 0 ∧ ¬ (rd < 0 ∨ 100 < rd) ∧ ∃ m : EngM, r = .returned (.tuple #[m.val, .int .i64 0]) ∧ m.In w'.heap.size w' ∧ m.eng = x.eng.calm n rd.toNat ∧ m.err n = 0 ∧ m.Apart w'))

set_option maxHeartbeats 4000000 in
theorem calm_any (n : NetM) (x : EngM) (rd : Int) (w : World) (h : n.In w.heap.size w) (hx : x.In w.heap.size w) :
    Calls Try.prog 27 #[n.val, x.val, .int .i64 rd] w fun r w' => CalmAns n.net x rd w r w' := by
  obtain ⟨W1, hW1⟩ : ∃ W1, W1 = ((w.alloc (.cells n.cells 41)).alloc (.cells x.cells 45)).alloc (.cells #[.slice none 0 0, .slice none 0 0] 45) := ⟨_, rfl⟩
  have hB1 : Below w.heap.size w W1 := by rw [hW1]; exact (((Below.refl _ w).alloc (Nat.le_refl _) _).alloc (by simp) _).alloc (by simp; omega) _
  have b3 : Blk W1 w.heap.size n.cells 41 := by rw [hW1]; exact ((Blk.new w _ _).alloc _).alloc _
  have b4 : Blk W1 (w.heap.size + 1) x.cells 45 := by rw [hW1]; exact (show Blk _ (w.heap.size + 1) x.cells 45 from Blk.new' (by simp)).alloc _
  have b6 : Blk W1 (w.heap.size + 1 + 1) #[.slice none 0 0, .slice none 0 0] 45 := by rw [hW1]; exact Blk.new' (by simp)
  have HCk := hide (engineCheck_any n x W1 (h.grown hB1) (hx.grown hB1))
  have H := hide h
  have Hx := hide hx
  have HB1 := hide hB1
  have Hb3 := hide b3
  have Hb4 := hide b4
  have Hb6 := hide b6
  simp only [NetM.val, NetM.cells, Mat.val, EngM.val, EngM.cells] at hW1 HCk ⊢
  rw [hW1] at HCk
  have HW1 := hide hW1
  clear h hx hB1 b3 b4 b6 hW1
  go_enter Try.func27, Try.ntmps27
  go_wp2_with fail
  go_at_call 20
  refine HCk.out.mono ?_
  rw [← HW1.out]
  rintro r W2 ⟨rfl, hb2⟩
  have c6 := Hb6.out.below hb2 Hb6.out.lt
  have HB2 := hide (HB1.out.trans (hb2.mono HB1.out.size))
  by_cases hck : x.err n.net = 0
  rotate_left
  · have s0 := c6.cell 0
    have s1 := c6.cell 1
    have f0 := c6.frozen 0
    have f1 := c6.frozen 1
    have c7 := (c6.set 0 (.slice none 0 0)).set 1 (.slice none 0 0)
    have e0 := c7.cell 0
    have e1 := c7.cell 1
    simp at s0 s1 e0 e1
    have hne : (x.err n.net == 0) = false := by simpa using hck
    have HF : Hid (CalmAns n.net x rd w (.returned (.tuple #[.agg #[.slice none 0 0, .slice none 0 0], .int .i64 (x.err n.net)])) ((W2.setCell ⟨w.heap.size + 1 + 1, 0, none⟩ (.slice none 0 0)).setCell ⟨w.heap.size + 1 + 1, 1, none⟩ (.slice none 0 0))) := hide ⟨(HB2.out.setCell (p := ⟨w.heap.size + 1 + 1, 0, none⟩) (by show w.heap.size ≤ w.heap.size + 1 + 1; omega) _).setCell (p := ⟨w.heap.size + 1 + 1, 1, none⟩) (by show w.heap.size ≤ w.heap.size + 1 + 1; omega) _, Or.inl ⟨hck, rfl⟩⟩
    generalize x.err n.net = er at *
    clear c6 c7 hb2 HCk hck
    go_wp2
    exact bodyPost_ret (v := .tuple #[.agg #[.slice none 0 0, .slice none 0 0], .int .i64 er]) (by simp [results, Try.results27, go_sem, e0, e1]) rfl HF.out
  by_cases hrd : rd < 0 ∨ 100 < rd
  · have s0 := c6.cell 0
    have s1 := c6.cell 1
    have f0 := c6.frozen 0
    have f1 := c6.frozen 1
    have c7 := (c6.set 0 (.slice none 0 0)).set 1 (.slice none 0 0)
    have e0 := c7.cell 0
    have e1 := c7.cell 1
    simp at s0 s1 e0 e1
    have HF : Hid (CalmAns n.net x rd w (.returned (.tuple #[.agg #[.slice none 0 0, .slice none 0 0], .int .i64 3])) ((W2.setCell ⟨w.heap.size + 1 + 1, 0, none⟩ (.slice none 0 0)).setCell ⟨w.heap.size + 1 + 1, 1, none⟩ (.slice none 0 0))) := hide ⟨(HB2.out.setCell (p := ⟨w.heap.size + 1 + 1, 0, none⟩) (by show w.heap.size ≤ w.heap.size + 1 + 1; omega) _).setCell (p := ⟨w.heap.size + 1 + 1, 1, none⟩) (by show w.heap.size ≤ w.heap.size + 1 + 1; omega) _, Or.inr (Or.inl ⟨hck, hrd, rfl⟩)⟩
    rw [hck]
    clear c6 c7 hb2 HCk hck
    rcases hrd with hrd | hrd
    · go_wp2
      exact bodyPost_ret (v := .tuple #[.agg #[.slice none 0 0, .slice none 0 0], .int .i64 3]) (by simp [results, Try.results27, go_sem, e0, e1]) rfl HF.out
    · have hr0 : ¬ rd < 0 := by omega
      go_wp2
      exact bodyPost_ret (v := .tuple #[.agg #[.slice none 0 0, .slice none 0 0], .int .i64 3]) (by simp [results, Try.results27, go_sem, e0, e1]) rfl HF.out
  obtain ⟨R, rfl⟩ : ∃ R : Nat, rd = R := ⟨rd.toNat, by omega⟩
  have hR1 : ¬ (R : Int) < 0 := by omega
  have hR2 : ¬ 100 < (R : Int) := by omega
  have hchk : n.net.check = 0 := by
    have := hck
    unfold EngM.err at this
    split at this
    · next h1 => exact absurd this h1
    · next h1 => omega
  obtain ⟨N, hN⟩ : ∃ N : Nat, n.nodes = N := ⟨n.nodes.toNat, by have := (Net.good_of_check hchk).lo; have : n.net.nodes = n.nodes := rfl; omega⟩
  obtain ⟨hN0, hN6, hNN, hnn⟩ := nodes_six hchk hN
  have HR := hide (EngM.right hck hnn)
  have HCp := hide (copied_any x N W2 (Hx.out.grown HB2.out) HR.out.gn hN0 hN6 HR.out.bn HR.out.rl HR.out.tl HR.out.ll)
  have c4 := Hb4.out.below hb2 Hb4.out.lt
  have q0 := c4.cell 0
  have q1 := c4.cell 1
  simp [EngM.cells] at q0 q1
  simp only [EngM.val, EngM.cells] at HCp
  rw [hck]
  have Hb2' := hide hb2
  have Hck := hide hck
  clear hb2 HCk c4 c6 hck
  go_wp2_with fail
  go_at_call 73
  refine HCp.out.mono ?_
  rintro r W3 ⟨mid, Bv, y, rfl, hparts, hown, hbm, hGl, hb3⟩
  obtain ⟨ba, bc, hBv⟩ := own_form hown
  obtain ⟨W4, hW4⟩ : ∃ W4, W4 = W3.alloc (.cells #[.slice (some ⟨y.G, 0, none⟩) N y.gc, Bv] 45) := ⟨_, rfl⟩
  have hB4 : Below W3.heap.size W3 W4 := by rw [hW4]; exact (Below.refl _ W3).alloc (Nat.le_refl _) _
  have hb24 := hb3.trans (hB4.mono hb3.size)
  have hlive : Live W2.heap.size W3.heap.size N x.eng Bv y W4 := by rw [hW4]; exact hparts.live hown hbm hb3.size hGl
  have g := Net.good_of_check hchk
  have HnW : Hid (∀ W, Below W2.heap.size W2 W → n.In W2.heap.size W) := hide (fun W hb => (H.out.below (HB2.out.trans (hb.mono HB2.out.size)) (Nat.le_refl _)).mono HB2.out.size)
  have HDA := hide (fun e1 Bv1 y1 W (hb : Below W2.heap.size W2 W) hl hf => deliverAll_any n W2.heap.size W3.heap.size N e1 Bv1 y1 W (HnW.out W hb) hchk hN hl hf)
  have HTk := hide (fun j e1 Bv1 y1 W (hb : Below W2.heap.size W2 W) hl hf hj hK => tick_ok n W2.heap.size W3.heap.size N j e1 Bv1 y1 W (HnW.out W hb) hchk hN hl hf hj hK)
  have Hc3 := hide (Hb3.out.below Hb2'.out Hb3.out.lt)
  have Hc6 := hide (Hb6.out.below Hb2'.out Hb6.out.lt)
  have c3 := Hc3.out.below hb3 Hc3.out.lt
  have x0 : ∀ o, (W3.alloc o).cell? ⟨w.heap.size, 0, none⟩ = some (.int .i64 n.a.size) := fun o => by have := (c3.alloc o).cell 0; simpa [NetM.cells] using this
  have x1 : ∀ o, (W3.alloc o).cell? ⟨w.heap.size, 1, none⟩ = some (.slice n.a.B.ga n.a.B.t.len n.a.B.cap) := fun o => by have := (c3.alloc o).cell 1; simpa [NetM.cells, Mat.val] using this
  have x2 : ∀ o, (W3.alloc o).cell? ⟨w.heap.size, 2, none⟩ = some (.slice n.a.E.ga n.a.E.t.len n.a.E.cap) := fun o => by have := (c3.alloc o).cell 2; simpa [NetM.cells, Mat.val] using this
  have x3 : ∀ o, (W3.alloc o).cell? ⟨w.heap.size, 3, none⟩ = some (.int .i64 N) := fun o => by have := (c3.alloc o).cell 3; simpa [NetM.cells, hN] using this
  have x4 : ∀ o, (W3.alloc o).cell? ⟨w.heap.size, 4, none⟩ = some (.slice n.la n.ln n.lc) := fun o => by have := (c3.alloc o).cell 4; simpa [NetM.cells] using this
  simp only [NetM.val, NetM.cells, Mat.val, hN] at HDA HTk
  have HD4 := hide (HDA.out x.eng Bv y W4 hb24 hlive HR.out.fit)
  have Hfc := hide (HR.out.fit.comes g)
  have Hfr := hide (fun k => Eng.rounds_fit g (HR.out.fit.comes g) (Eng.comes_bag x.eng) k)
  have Hb24 := hide hb24
  rw [hBv] at hW4
  rw [hW4] at HD4
  rw [hBv]
  have HW4 := hide hW4
  have HN := hide hN
  have Hchk := hide hchk
  have HNN := hide hNN
  have Hnn := hide hnn
  clear c3 hb24 hB4 hlive hW4 hBv hparts hown hbm hGl hb3 HCp q0 q1 hN hchk hnn hNN
  go_wp2_with fail
  go_at_call 80
  refine HD4.out.mono ?_
  rw [← HW4.out]
  rintro r W5 ⟨rfl, hl5, hb5⟩
  have HI0 : Hid ((∃ Bv y, Live W2.heap.size W3.heap.size N ((x.eng.comes n.net).rounds n.net 0) Bv y W5) ∧ Below W2.heap.size W2 W5) := hide ⟨hl5, Hb24.out.trans hb5⟩
  clear hl5 hb5 HD4 x0 x1 x2 x3 x4
  go_wp2_with fail
  go_loopw [10, 30, 34] (fun _ q _ wr => ∃ k : Nat, k ≤ R ∧ q = .int .i64 k ∧ Hid ((∃ Bv y, Live W2.heap.size W3.heap.size N ((x.eng.comes n.net).rounds n.net k) Bv y wr) ∧ Below W2.heap.size W2 wr)) (fun _ q _ _ => R - (intOf q).toNat)
  case atStart => exact ⟨0, Nat.zero_le _, rfl, HI0⟩
  case round =>
    obtain ⟨k, hk, rfl, HI⟩ := hrel
    clear HI0
    by_cases hlt : k < R
    · have hki : (k : Int) < (R : Int) := by omega
      have x3 := (Hc3.out.below HI.out.2 Hc3.out.lt).cell 3
      simp [NetM.cells, HN.out] at x3
      have HJ0 : Hid ((∃ Bv y, Live W2.heap.size W3.heap.size N (((x.eng.comes n.net).rounds n.net k).ticks n.net 0) Bv y wr) ∧ Below W2.heap.size W2 wr) := HI
      go_wp2_with fail
      go_loopw [10, 34] (fun _ q wr => ∃ j : Nat, j ≤ N ∧ q = .int .i64 j ∧ Hid ((∃ Bv y, Live W2.heap.size W3.heap.size N (((x.eng.comes n.net).rounds n.net k).ticks n.net j) Bv y wr) ∧ Below W2.heap.size W2 wr)) (fun _ q _ => N - (intOf q).toNat)
      case atStart => exact ⟨0, Nat.zero_le _, rfl, HJ0⟩
      case round =>
        obtain ⟨j, hj, rfl, HJ⟩ := hrel
        have cb := Hc3.out.below HJ.out.2 Hc3.out.lt
        have z0 := cb.cell 0
        have z1 := cb.cell 1
        have z2 := cb.cell 2
        have z3 := cb.cell 3
        have z4 := cb.cell 4
        simp [NetM.cells, Mat.val, HN.out] at z0 z1 z2 z3 z4
        obtain ⟨⟨Bj, yj, hlj⟩, hbj⟩ := HJ.out
        have hfj := (Hfr.out k).1.ticks g (Hfr.out k).2 j (by rw [HNN.out]; exact hj)
        by_cases hlj2 : j < N
        · have hji : (j : Int) < (N : Int) := by omega
          have hroom : (((x.eng.comes n.net).rounds n.net k).ticks n.net j).bag.length + (n.net.hearers j).length ≤ 120 := by
            have h1 := Eng.ticks_bag (n := n.net) ((x.eng.comes n.net).rounds n.net k) j
            have h2 := n.net.hearers_le j
            have h3 := Net.ticks_room g (k := j) (by rw [HNN.out]; exact hj)
            rw [(Hfr.out k).2] at h1
            have h4 := HNN.out
            simp at h1
            omega
          have HT := hide (HTk.out j _ Bj yj _ hbj hlj hfj hlj2 hroom)
          have Hbj := hide hbj
          clear cb hlj hfj hbj hroom HJ HJ0 HI
          go_wp2_with fail
          go_at_call 81
          refine HT.out.mono ?_
          rintro r w6 ⟨rfl, hl6, hb6⟩
          have HJ2 : Hid ((∃ Bv y, Live W2.heap.size W3.heap.size N (((x.eng.comes n.net).rounds n.net k).ticks n.net (j + 1)) Bv y w6) ∧ Below W2.heap.size W2 w6) := hide ⟨hl6, Hbj.out.trans hb6⟩
          clear hl6 hb6 HT Hbj
          go_wp2
          go_roundw
          case rel =>
            first
            | exact ⟨j + 1, by omega, by go_num, HJ2⟩
            | ((repeat apply Exists.intro); refine ⟨?_, rfl⟩; exact ⟨j + 1, by omega, by go_num, HJ2⟩)
          case measure => simp [intOf]; omega
        · have hjn : j = N := by omega
          subst hjn
          have HD := hide (HDA.out _ Bj yj _ hbj hlj hfj)
          have Hbj := hide hbj
          clear cb hlj hfj hbj HJ HJ0 HI
          go_wp2_with fail
          go_at_call 80
          refine HD.out.mono ?_
          rintro r w6 ⟨rfl, hl6, hb6⟩
          have HI2 : Hid ((∃ Bv y, Live W2.heap.size W3.heap.size j ((x.eng.comes n.net).rounds n.net (k + 1)) Bv y w6) ∧ Below W2.heap.size W2 w6) := hide ⟨by
            have he : ((x.eng.comes n.net).rounds n.net (k + 1)) = (((x.eng.comes n.net).rounds n.net k).ticks n.net j).comes n.net := by
              show ((x.eng.comes n.net).rounds n.net k).round n.net = _
              unfold Eng.round
              rw [HNN.out]
            rw [he]; exact hl6, Hbj.out.trans hb6⟩
          clear hl6 hb6 HD Hbj
          go_wp2
          go_roundw
          case rel =>
            first
            | exact ⟨k + 1, by omega, by go_num, HI2⟩
            | ((repeat apply Exists.intro); refine ⟨?_, rfl⟩; exact ⟨k + 1, by omega, by go_num, HI2⟩)
          case measure => simp [intOf]; omega
    · have hkn : k = R := by omega
      subst hkn
      obtain ⟨⟨Bv5, y5, hl5⟩, hb5⟩ := HI.out
      have hfit2 := (Hfr.out k).1
      have c6 := Hc6.out.below hb5 Hc6.out.lt
      have hw5 := HB2.out.trans (hb5.mono HB2.out.size)
      have s0 := c6.cell 0
      have s1 := c6.cell 1
      have f0 := c6.frozen 0
      have f1 := c6.frozen 1
      obtain ⟨ba5, bc5, hBv5⟩ := own_form hl5.bag
      have p0 := hl5.head.cell 0
      have p1 := hl5.head.cell 1
      have c7 := (c6.set 0 (.slice (some ⟨y5.G, 0, none⟩) N y5.gc)).set 1 Bv5
      have e0 := c7.cell 0
      have e1 := c7.cell 1
      simp at s0 s1 p0 p1 e0 e1
      have hl6 := hl5.setRes hN0 Hc6.out.lt c6 (.slice (some ⟨y5.G, 0, none⟩) N y5.gc) Bv5
      obtain ⟨m, hmc, hmin, hme, hm1, hm2, hm3, hm4, hm5, _, hm7⟩ := hl6.outF hN0 hN6 hfit2.many (fun m hm => (hfit2.mail m hm).2.2)
      have hmr : m.err n.net = 0 := EngM.of_right ⟨Hchk.out, hm1, hm2, hm3, fun i hi q hq => by rw [hme]; exact hm4 i hi q hq, by rw [hm5]; exact hfit2.many, by rw [hme]; exact hfit2⟩ (by have h3 : n.net.nodes = n.nodes := rfl; rw [h3]; exact HN.out)
      have HF : Hid (CalmAns n.net x k w (.returned (.tuple #[.agg #[.slice (some ⟨y5.G, 0, none⟩) N y5.gc, Bv5], .int .i64 0])) ((wr.setCell ⟨w.heap.size + 1 + 1, 0, none⟩ (.slice (some ⟨y5.G, 0, none⟩) N y5.gc)).setCell ⟨w.heap.size + 1 + 1, 1, none⟩ Bv5)) := hide ⟨(hw5.setCell (p := ⟨w.heap.size + 1 + 1, 0, none⟩) (by show w.heap.size ≤ w.heap.size + 1 + 1; omega) _).setCell (p := ⟨w.heap.size + 1 + 1, 1, none⟩) (by show w.heap.size ≤ w.heap.size + 1 + 1; omega) _, Or.inr (Or.inr ⟨Hck.out, by omega, m, by rw [EngM.val, hmc], hmin, hme, hmr, hm7⟩)⟩
      rw [hBv5] at p1 e0 e1 HF
      generalize ((x.eng.comes n.net).rounds n.net k).bag.length = bl at *
      clear c6 c7 hw5 hl5 hb5 hl6 hmc hmin hme hm1 hm2 hm3 hm4 hm5 hm7 hmr hfit2 hBv5 HI hlt
      go_wp2
      exact bodyPost_ret (v := .tuple #[.agg #[.slice (some ⟨y5.G, 0, none⟩) N y5.gc, .slice ba5 bl bc5], .int .i64 0]) (by simp [results, Try.results27, go_sem, e0, e1]) rfl HF.out

end Go.Proofs.Ytjhkadffaephmab

/-
  engine.Play.
-/
namespace Go.Proofs.Ytjhkadffaephmab
set_option maxRecDepth 100000
open Go.RowKit

/-- A list of events in memory. -/
structure EvsM where
  ea : Option Addr
  en : Nat
  ec : Nat
  eb : Nat
  eo : Nat
  v : Nat → EvM
def EvsM.evs (l : EvsM) : List Ev := (List.range l.en).map fun i => (l.v i).ev
theorem EvsM.evs_len (l : EvsM) : l.evs.length = l.en := by simp [EvsM.evs]
structure EvsM.In (l : EvsM) (N : Nat) (w : World) : Prop where
  ea : 0 < l.en → l.ea = some ⟨l.eb, l.eo, none⟩
  eb : 0 < l.en → l.eb < N
  c0 : ∀ i, i < l.en → w.cell? ⟨l.eb, l.eo + i * 5, none⟩ = some (.int .i64 (l.v i).kind)
  c1 : ∀ i, i < l.en → w.cell? ⟨l.eb, l.eo + i * 5 + 1, none⟩ = some (.int .i64 (l.v i).loc)
  c2 : ∀ i, i < l.en → w.cell? ⟨l.eb, l.eo + i * 5 + 2, none⟩ = some (.int .i64 (l.v i).b)
  c3 : ∀ i, i < l.en → w.cell? ⟨l.eb, l.eo + i * 5 + 3, none⟩ = some (.int .i64 (l.v i).c)
  c4 : ∀ i, i < l.en → w.cell? ⟨l.eb, l.eo + i * 5 + 4, none⟩ = some (.slice (l.v i).ra (l.v i).rl (l.v i).rc)
  v : ∀ i, i < l.en → (l.v i).In N w
  len : l.en ≤ maxLen
theorem EvsM.In.below {l : EvsM} {N k : Nat} {w w' : World} (h : l.In N w) (hb : Below k w w') (hk : N ≤ k) : l.In N w' := by
  have hc : ∀ o, 0 < l.en → w'.cell? ⟨l.eb, o, none⟩ = w.cell? ⟨l.eb, o, none⟩ := fun o h0 => hb.cell (p := ⟨l.eb, o, none⟩) (Nat.lt_of_lt_of_le (h.eb h0) hk)
  exact ⟨h.ea, h.eb, fun i hi => by rw [hc _ (by omega)]; exact h.c0 i hi, fun i hi => by rw [hc _ (by omega)]; exact h.c1 i hi, fun i hi => by rw [hc _ (by omega)]; exact h.c2 i hi, fun i hi => by rw [hc _ (by omega)]; exact h.c3 i hi, fun i hi => by rw [hc _ (by omega)]; exact h.c4 i hi, fun i hi => (h.v i hi).below hb hk, h.len⟩

/-- What Play answers. -/
def PlayAns (n : Net) (x : EngM) (l : List Ev) (w : World) (r : Ending) (w' : World) : Prop :=
  Below w.heap.size w w' ∧
  ((x.err n ≠ 0 ∧ r = .returned (.tuple #[zeroEng, .int .i64 0, .int .i64 (x.err n)])) ∨
   (x.err n = 0 ∧ 300 < l.length ∧ r = .returned (.tuple #[zeroEng, .int .i64 0, .int .i64 2])) ∨
   (x.err n = 0 ∧ ¬ 300 < l.length ∧ ∃ m : EngM, r = .returned (.tuple #[m.val, .int .i64 ((Eng.play n x.eng l).2 : Int), .int .i64 0]) ∧ m.In w'.heap.size w' ∧ m.eng = (Eng.play n x.eng l).1 ∧ m.err n = 0))

theorem play_next {n : Net} {e : Eng} {l : EvsM} {k : Nat} (hk : k < l.en) (h0 : e.stepErr n (l.v k).ev = 0) : Eng.play n e (l.evs.drop k) = ((Eng.play n (e.step n (l.v k).ev) (l.evs.drop (k + 1))).1, (Eng.play n (e.step n (l.v k).ev) (l.evs.drop (k + 1))).2 + 1) := by
  have hd : l.evs.drop k = (l.v k).ev :: l.evs.drop (k + 1) := by
    rw [List.drop_eq_getElem_cons (by rw [EvsM.evs_len]; exact hk)]
    simp [EvsM.evs]
  rw [hd]
  show (if e.stepErr n (l.v k).ev = 0 then _ else _) = _
  rw [if_pos h0]
theorem play_stop {n : Net} {e : Eng} {l : EvsM} {k : Nat} (hk : k < l.en) (h0 : e.stepErr n (l.v k).ev ≠ 0) : Eng.play n e (l.evs.drop k) = (e, 0) := by
  have hd : l.evs.drop k = (l.v k).ev :: l.evs.drop (k + 1) := by
    rw [List.drop_eq_getElem_cons (by rw [EvsM.evs_len]; exact hk)]
    simp [EvsM.evs]
  rw [hd]
  show (if e.stepErr n (l.v k).ev = 0 then _ else _) = _
  rw [if_neg h0]
theorem play_end {n : Net} {e : Eng} {l : EvsM} : Eng.play n e (l.evs.drop l.en) = (e, 0) := by
  rw [List.drop_eq_nil_of_le (by rw [EvsM.evs_len]; exact Nat.le_refl _)]
  rfl

/-- Behind so many events. -/
structure PlayI (n : Net) (l : EvsM) (base P N : Nat) (e0 : Eng) (W2 : World) (k : Nat) (W : World) : Prop where
  ex : ∃ e1, (∃ Bv y, Live base P N e1 Bv y W) ∧ e1.Fit n ∧ Eng.play n e0 l.evs = ((Eng.play n e1 (l.evs.drop k)).1, k + (Eng.play n e1 (l.evs.drop k)).2)
  below : Below base W2 W

/-- An engine that was changed is put where the result is. -/
theorem live_end {n : Net} {base P N q : Nat} {e : Eng} {Bv : Value} {y : Lay} {W : World} (h : Live base P N e Bv y W) (hf : e.Fit n) (hN0 : 0 < N) (hN6 : N ≤ 6) (hq : q < base) (hb : Blk W q #[.slice none 0 0, .slice none 0 0] 45) (hck : n.check = 0) (hN : n.nodes = (N : Int)) :
    ∃ m : EngM, m.cells = #[.slice (some ⟨y.G, 0, none⟩) N y.gc, Bv] ∧ m.In ((W.setCell ⟨q, 0, none⟩ (.slice (some ⟨y.G, 0, none⟩) N y.gc)).setCell ⟨q, 1, none⟩ Bv).heap.size ((W.setCell ⟨q, 0, none⟩ (.slice (some ⟨y.G, 0, none⟩) N y.gc)).setCell ⟨q, 1, none⟩ Bv) ∧ m.eng = e ∧ m.err n = 0 := by
  have hl6 := h.setRes hN0 hq hb (.slice (some ⟨y.G, 0, none⟩) N y.gc) Bv
  obtain ⟨m, hmc, hmin, hme, hm1, hm2, hm3, hm4, hm5⟩ := hl6.out hN0 hN6 hf.many (fun m hm => (hf.mail m hm).2.2)
  exact ⟨m, hmc, hmin, hme, EngM.of_right ⟨hck, hm1, hm2, hm3, fun i hi q hq => by rw [hme]; exact hm4 i hi q hq, by rw [hm5]; exact hf.many, by rw [hme]; exact hf⟩ hN⟩

set_option maxHeartbeats 4000000 in
theorem play_any (n : NetM) (x : EngM) (l : EvsM) (w : World) (h : n.In w.heap.size w) (hx : x.In w.heap.size w) (hl : l.In w.heap.size w) :
    Calls Try.prog 25 #[n.val, x.val, .slice l.ea l.en l.ec] w fun r w' => PlayAns n.net x l.evs w r w' := by
  have hle := hl.len
  unfold maxLen at hle
  have Hl := hide hl
  obtain ⟨W1, hW1⟩ : ∃ W1, W1 = ((w.alloc (.cells n.cells 41)).alloc (.cells x.cells 45)).alloc (.cells #[.slice none 0 0, .slice none 0 0] 45) := ⟨_, rfl⟩
  have hB1 : Below w.heap.size w W1 := by rw [hW1]; exact (((Below.refl _ w).alloc (Nat.le_refl _) _).alloc (by simp) _).alloc (by simp; omega) _
  have b3 : Blk W1 w.heap.size n.cells 41 := by rw [hW1]; exact ((Blk.new w _ _).alloc _).alloc _
  have b4 : Blk W1 (w.heap.size + 1) x.cells 45 := by rw [hW1]; exact (show Blk _ (w.heap.size + 1) x.cells 45 from Blk.new' (by simp)).alloc _
  have b6 : Blk W1 (w.heap.size + 1 + 1) #[.slice none 0 0, .slice none 0 0] 45 := by rw [hW1]; exact Blk.new' (by simp)
  have HCk := hide (engineCheck_any n x W1 (h.grown hB1) (hx.grown hB1))
  have H := hide h
  have Hx := hide hx
  have HB1 := hide hB1
  have Hb3 := hide b3
  have Hb4 := hide b4
  have Hb6 := hide b6
  simp only [NetM.val, NetM.cells, Mat.val, EngM.val, EngM.cells] at hW1 HCk ⊢
  rw [hW1] at HCk
  have HW1 := hide hW1
  clear h hx hl hB1 b3 b4 b6 hW1
  go_enter Try.func25, Try.ntmps25
  go_wp2_with fail
  go_at_call 20
  refine HCk.out.mono ?_
  rw [← HW1.out]
  rintro r W2 ⟨rfl, hb2⟩
  have c6 := Hb6.out.below hb2 Hb6.out.lt
  have HB2 := hide (HB1.out.trans (hb2.mono HB1.out.size))
  by_cases hck : x.err n.net = 0
  rotate_left
  · have s0 := c6.cell 0
    have s1 := c6.cell 1
    have f0 := c6.frozen 0
    have f1 := c6.frozen 1
    have c7 := (c6.set 0 (.slice none 0 0)).set 1 (.slice none 0 0)
    have e0 := c7.cell 0
    have e1 := c7.cell 1
    simp at s0 s1 e0 e1
    have hne : (x.err n.net == 0) = false := by simpa using hck
    have HF : Hid (PlayAns n.net x l.evs w (.returned (.tuple #[.agg #[.slice none 0 0, .slice none 0 0], .int .i64 0, .int .i64 (x.err n.net)])) ((W2.setCell ⟨w.heap.size + 1 + 1, 0, none⟩ (.slice none 0 0)).setCell ⟨w.heap.size + 1 + 1, 1, none⟩ (.slice none 0 0))) := hide ⟨(HB2.out.setCell (p := ⟨w.heap.size + 1 + 1, 0, none⟩) (by show w.heap.size ≤ w.heap.size + 1 + 1; omega) _).setCell (p := ⟨w.heap.size + 1 + 1, 1, none⟩) (by show w.heap.size ≤ w.heap.size + 1 + 1; omega) _, Or.inl ⟨hck, rfl⟩⟩
    generalize x.err n.net = er at *
    clear c6 c7 hb2 HCk hck
    go_wp2
    exact bodyPost_ret (v := .tuple #[.agg #[.slice none 0 0, .slice none 0 0], .int .i64 0, .int .i64 er]) (by simp [results, Try.results25, go_sem, e0, e1]) rfl HF.out
  by_cases hrd : 300 < l.en
  · have s0 := c6.cell 0
    have s1 := c6.cell 1
    have f0 := c6.frozen 0
    have f1 := c6.frozen 1
    have c7 := (c6.set 0 (.slice none 0 0)).set 1 (.slice none 0 0)
    have e0 := c7.cell 0
    have e1 := c7.cell 1
    simp at s0 s1 e0 e1
    have HF : Hid (PlayAns n.net x l.evs w (.returned (.tuple #[.agg #[.slice none 0 0, .slice none 0 0], .int .i64 0, .int .i64 2])) ((W2.setCell ⟨w.heap.size + 1 + 1, 0, none⟩ (.slice none 0 0)).setCell ⟨w.heap.size + 1 + 1, 1, none⟩ (.slice none 0 0))) := hide ⟨(HB2.out.setCell (p := ⟨w.heap.size + 1 + 1, 0, none⟩) (by show w.heap.size ≤ w.heap.size + 1 + 1; omega) _).setCell (p := ⟨w.heap.size + 1 + 1, 1, none⟩) (by show w.heap.size ≤ w.heap.size + 1 + 1; omega) _, Or.inr (Or.inl ⟨hck, by rw [EvsM.evs_len]; exact hrd, rfl⟩)⟩
    rw [hck]
    clear c6 c7 hb2 HCk hck
    have hrd' : (300 : Int) < (l.en : Int) := by omega
    go_wp2
    exact bodyPost_ret (v := .tuple #[.agg #[.slice none 0 0, .slice none 0 0], .int .i64 0, .int .i64 2]) (by simp [results, Try.results25, go_sem, e0, e1]) rfl HF.out
  have hR2 : ¬ (300 : Int) < (l.en : Int) := by omega
  have hchk : n.net.check = 0 := by
    have := hck
    unfold EngM.err at this
    split at this
    · next h1 => exact absurd this h1
    · next h1 => omega
  obtain ⟨N, hN⟩ : ∃ N : Nat, n.nodes = N := ⟨n.nodes.toNat, by have := (Net.good_of_check hchk).lo; have : n.net.nodes = n.nodes := rfl; omega⟩
  obtain ⟨hN0, hN6, hNN, hnn⟩ := nodes_six hchk hN
  have HR := hide (EngM.right hck hnn)
  have HCp := hide (copied_any x N W2 (Hx.out.grown HB2.out) HR.out.gn hN0 hN6 HR.out.bn HR.out.rl HR.out.tl HR.out.ll)
  have c4 := Hb4.out.below hb2 Hb4.out.lt
  have q0 := c4.cell 0
  have q1 := c4.cell 1
  simp [EngM.cells] at q0 q1
  simp only [EngM.val, EngM.cells] at HCp
  rw [hck]
  have Hb2' := hide hb2
  have Hck := hide hck
  clear hb2 HCk c4 c6 hck
  go_wp2_with fail
  go_at_call 73
  refine HCp.out.mono ?_
  rintro r W3 ⟨mid, Bv, y, rfl, hparts, hown, hbm, hGl, hb3⟩
  obtain ⟨ba, bc, hBv⟩ := own_form hown
  obtain ⟨W4, hW4⟩ : ∃ W4, W4 = W3.alloc (.cells #[.slice (some ⟨y.G, 0, none⟩) N y.gc, Bv] 45) := ⟨_, rfl⟩
  have hB4 : Below W3.heap.size W3 W4 := by rw [hW4]; exact (Below.refl _ W3).alloc (Nat.le_refl _) _
  have hb24 := hb3.trans (hB4.mono hb3.size)
  have hlive : Live W2.heap.size W3.heap.size N x.eng Bv y W4 := by rw [hW4]; exact hparts.live hown hbm hb3.size hGl
  have HnW : Hid (∀ W, Below W2.heap.size W2 W → n.In W2.heap.size W ∧ l.In w.heap.size W) := hide (fun W hb => ⟨(H.out.below (HB2.out.trans (hb.mono HB2.out.size)) (Nat.le_refl _)).mono HB2.out.size, Hl.out.below (HB2.out.trans (hb.mono HB2.out.size)) (Nat.le_refl _)⟩)
  have Hc3 := hide (Hb3.out.below Hb2'.out Hb3.out.lt)
  have Hc6 := hide (Hb6.out.below Hb2'.out Hb6.out.lt)
  have HI0 : Hid (PlayI n.net l W2.heap.size W3.heap.size N x.eng W2 0 W4) := hide ⟨⟨x.eng, ⟨Bv, y, hlive⟩, HR.out.fit, by simp⟩, hb24⟩
  have HN := hide hN
  have Hchk := hide hchk
  have Hnn := hide hnn
  have Hsz2 := hide HB2.out.size
  rw [hBv] at hW4 ⊢
  have HW4 := hide hW4
  clear hb24 hB4 hlive hW4 hBv hparts hown hbm hGl hb3 HCp q0 q1 hN hchk hnn hNN
  go_wp2_with fail
  rw [← HW4.out]
  go_loopw [11, 13, 29] (fun d _ q wr => ∃ k : Nat, k ≤ l.en ∧ q = .int .i64 k ∧ d = .int .i64 k ∧ Hid (PlayI n.net l W2.heap.size W3.heap.size N x.eng W2 k wr)) (fun _ _ q _ => l.en - (intOf q).toNat)
  case atStart => exact ⟨0, Nat.zero_le _, rfl, rfl, HI0⟩
  case round =>
    obtain ⟨k, hk, rfl, rfl, HI⟩ := hrel
    clear HI0
    obtain ⟨e1, ⟨Bv1, y1, hl1⟩, hf1, hp1⟩ := HI.out.ex
    have hb1 := HI.out.below
    clear HI
    by_cases hlt : k < l.en
    · have hki : (k : Int) < (l.en : Int) := by omega
      obtain ⟨hn1, hv1⟩ := HnW.out wr hb1
      have hea := hv1.ea (by omega)
      have d0 := hv1.c0 k hlt
      have d1 := hv1.c1 k hlt
      have d2 := hv1.c2 k hlt
      have d3 := hv1.c3 k hlt
      have d4 := hv1.c4 k hlt
      obtain ⟨W6, hW6⟩ : ∃ W6, W6 = wr.alloc (.cells #[.int .i64 (l.v k).kind, .int .i64 (l.v k).loc, .int .i64 (l.v k).b, .int .i64 (l.v k).c, .slice (l.v k).ra (l.v k).rl (l.v k).rc] 50) := ⟨_, rfl⟩
      have hbase : W2.heap.size ≤ wr.heap.size := hb1.size
      have hB6 : Below wr.heap.size wr W6 := by rw [hW6]; exact (Below.refl _ wr).alloc (Nat.le_refl _) _
      have hl6 := hl1.below hB6
      have hb6 := hb1.trans (hB6.mono hbase)
      have HH := hide (happen_any n (l.v k) W2.heap.size W3.heap.size N e1 Bv1 y1 W6 (HnW.out W6 hb6).1 Hchk.out HN.out hl6 hf1 (((HnW.out W6 hb6).2.v k hlt).mono Hsz2.out))
      have c3 := Hc3.out.below hb1 Hc3.out.lt
      have x0 : ∀ o, (wr.alloc o).cell? ⟨w.heap.size, 0, none⟩ = some (.int .i64 n.a.size) := fun o => by have := (c3.alloc o).cell 0; simpa [NetM.cells] using this
      have x1 : ∀ o, (wr.alloc o).cell? ⟨w.heap.size, 1, none⟩ = some (.slice n.a.B.ga n.a.B.t.len n.a.B.cap) := fun o => by have := (c3.alloc o).cell 1; simpa [NetM.cells, Mat.val] using this
      have x2 : ∀ o, (wr.alloc o).cell? ⟨w.heap.size, 2, none⟩ = some (.slice n.a.E.ga n.a.E.t.len n.a.E.cap) := fun o => by have := (c3.alloc o).cell 2; simpa [NetM.cells, Mat.val] using this
      have x3 : ∀ o, (wr.alloc o).cell? ⟨w.heap.size, 3, none⟩ = some (.int .i64 n.nodes) := fun o => by have := (c3.alloc o).cell 3; simpa [NetM.cells] using this
      have x4 : ∀ o, (wr.alloc o).cell? ⟨w.heap.size, 4, none⟩ = some (.slice n.la n.ln n.lc) := fun o => by have := (c3.alloc o).cell 4; simpa [NetM.cells] using this
      obtain ⟨er, her⟩ : ∃ er, er = e1.stepErr n.net (l.v k).ev := ⟨_, rfl⟩
      obtain ⟨e2, he2⟩ : ∃ e2, e2 = (if e1.stepErr n.net (l.v k).ev = 0 then e1.step n.net (l.v k).ev else e1) := ⟨_, rfl⟩
      rw [← he2, ← her] at HH
      simp only [NetM.val, NetM.cells, Mat.val, EvM.val, EvM.cells] at HH
      rw [hW6] at HH
      have Her := hide her
      have He2 := hide he2
      have Hf1 := hide hf1
      have Hp1 := hide hp1
      have HB6 := hide hb6
      have HW6 := hide hW6
      clear hn1 hv1 hl1 hb1 hl6 hb6 hB6 hW6 c3 her he2 hf1 hp1 hbase
      go_wp2_with fail
      go_at_call 74
      refine HH.out.mono ?_
      rw [← HW6.out]
      rintro r w7 ⟨rfl, ⟨Bv5, y5, hl5⟩, hb7⟩
      have hb5 := HB6.out.trans hb7
      clear hb7 HH x0 x1 x2 x3 x4 d0 d1 d2 d3 d4
      by_cases hz : er = 0
      · have hz0 : e1.stepErr n.net (l.v k).ev = 0 := Her.out.symm.trans hz
        have HI2 : Hid (PlayI n.net l W2.heap.size W3.heap.size N x.eng W2 (k + 1) w7) := hide ⟨⟨e1.step n.net (l.v k).ev, ⟨Bv5, y5, by rw [He2.out, if_pos hz0] at hl5; exact hl5⟩, Hf1.out.step (Net.good_of_check Hchk.out) hz0, by rw [Hp1.out, play_next hlt hz0]; simp; omega⟩, hb5⟩
        rw [hz]
        clear hl5 hb5 hz hz0 Her He2
        go_wp2
        go_roundw
        case rel =>
          first
          | exact ⟨k + 1, by omega, by go_num, by go_num, HI2⟩
          | ((try rw [← hea]); (repeat apply Exists.intro); refine ⟨?_, rfl⟩; exact ⟨k + 1, by omega, by go_num, by go_num, HI2⟩)
        case measure => simp [intOf]; omega
      · have hz0 : e1.stepErr n.net (l.v k).ev ≠ 0 := fun h => hz (Her.out.trans h)
        have hne : (er == 0) = false := by simpa using hz
        rw [He2.out, if_neg hz0] at hl5
        have Hpl : Hid (Eng.play n.net x.eng l.evs = (e1, k)) := hide (by rw [Hp1.out, play_stop hlt hz0]; simp)
        obtain ⟨ba5, bc5, hBv5⟩ := own_form hl5.bag
        have c6 := Hc6.out.below hb5 Hc6.out.lt
        have hw5 := HB2.out.trans (hb5.mono HB2.out.size)
        have s0 := c6.cell 0
        have s1 := c6.cell 1
        have f0 := c6.frozen 0
        have f1 := c6.frozen 1
        have p0 := hl5.head.cell 0
        have p1 := hl5.head.cell 1
        have c7 := (c6.set 0 (.slice (some ⟨y5.G, 0, none⟩) N y5.gc)).set 1 Bv5
        have g0 := c7.cell 0
        have g1 := c7.cell 1
        simp at s0 s1 p0 p1 g0 g1
        obtain ⟨m, hmc, hmin, hme, hmr⟩ := live_end hl5 Hf1.out hN0 hN6 Hc6.out.lt c6 Hchk.out Hnn.out
        have HF : Hid (PlayAns n.net x l.evs w (.returned (.tuple #[.agg #[.slice (some ⟨y5.G, 0, none⟩) N y5.gc, Bv5], .int .i64 (k : Int), .int .i64 0])) ((w7.setCell ⟨w.heap.size + 1 + 1, 0, none⟩ (.slice (some ⟨y5.G, 0, none⟩) N y5.gc)).setCell ⟨w.heap.size + 1 + 1, 1, none⟩ Bv5)) := hide ⟨(hw5.setCell (p := ⟨w.heap.size + 1 + 1, 0, none⟩) (by show w.heap.size ≤ w.heap.size + 1 + 1; omega) _).setCell (p := ⟨w.heap.size + 1 + 1, 1, none⟩) (by show w.heap.size ≤ w.heap.size + 1 + 1; omega) _, Or.inr (Or.inr ⟨Hck.out, by rw [EvsM.evs_len]; omega, m, by rw [EngM.val, hmc, Hpl.out], hmin, by rw [hme, Hpl.out], hmr⟩)⟩
        rw [hBv5] at p1 g0 g1 HF
        generalize e1.bag.length = bl at *
        clear c6 c7 hw5 hl5 hb5 hmc hmin hme hmr hBv5
        go_wp2
        exact bodyPost_ret (v := .tuple #[.agg #[.slice (some ⟨y5.G, 0, none⟩) N y5.gc, .slice ba5 bl bc5], .int .i64 (k : Int), .int .i64 0]) (by simp [results, Try.results25, go_sem, g0, g1]) rfl HF.out
    · have hkn : k = l.en := by omega
      have Hpl : Hid (Eng.play n.net x.eng l.evs = (e1, k)) := hide (by rw [hp1, hkn, play_end]; simp)
      have hl5 := hl1
      have hb5 := hb1
      have hki : ¬ (k : Int) < (l.en : Int) := by omega
      clear hp1 hl1 hb1 hkn hlt
      obtain ⟨ba5, bc5, hBv1⟩ := own_form hl5.bag
      have c6 := Hc6.out.below hb5 Hc6.out.lt
      have hw5 := HB2.out.trans (hb5.mono HB2.out.size)
      have s0 := c6.cell 0
      have s1 := c6.cell 1
      have f0 := c6.frozen 0
      have f1 := c6.frozen 1
      have p0 := hl5.head.cell 0
      have p1 := hl5.head.cell 1
      have c7 := (c6.set 0 (.slice (some ⟨y1.G, 0, none⟩) N y1.gc)).set 1 Bv1
      have g0 := c7.cell 0
      have g1 := c7.cell 1
      simp at s0 s1 p0 p1 g0 g1
      obtain ⟨m, hmc, hmin, hme, hmr⟩ := live_end hl5 hf1 hN0 hN6 Hc6.out.lt c6 Hchk.out Hnn.out
      have HF : Hid (PlayAns n.net x l.evs w (.returned (.tuple #[.agg #[.slice (some ⟨y1.G, 0, none⟩) N y1.gc, Bv1], .int .i64 (k : Int), .int .i64 0])) ((wr.setCell ⟨w.heap.size + 1 + 1, 0, none⟩ (.slice (some ⟨y1.G, 0, none⟩) N y1.gc)).setCell ⟨w.heap.size + 1 + 1, 1, none⟩ Bv1)) := hide ⟨(hw5.setCell (p := ⟨w.heap.size + 1 + 1, 0, none⟩) (by show w.heap.size ≤ w.heap.size + 1 + 1; omega) _).setCell (p := ⟨w.heap.size + 1 + 1, 1, none⟩) (by show w.heap.size ≤ w.heap.size + 1 + 1; omega) _, Or.inr (Or.inr ⟨Hck.out, by rw [EvsM.evs_len]; omega, m, by rw [EngM.val, hmc, Hpl.out], hmin, by rw [hme, Hpl.out], hmr⟩)⟩
      rw [hBv1] at p1 g0 g1 HF
      generalize e1.bag.length = bl at *
      clear c6 c7 hw5 hl5 hb5 hmc hmin hme hmr hBv1
      go_wp2
      exact bodyPost_ret (v := .tuple #[.agg #[.slice (some ⟨y1.G, 0, none⟩) N y1.gc, .slice ba5 bl bc5], .int .i64 (k : Int), .int .i64 0]) (by simp [results, Try.results25, go_sem, g0, g1]) rfl HF.out

end Go.Proofs.Ytjhkadffaephmab
