/-
  Our own texts, bundled: a claim holds few files.
-/
import Derived.Test.YtjhkadffaephmabGreatCutEnginePlaysBG
import Derived.Test.YtjhkadffaephmabGreatCutEnginePlaysAH
import Derived.Test.YtjhkadffaephmabGreatCutEnginePlaysAI
import Derived.Test.YtjhkadffaephmabGreatCutEnginePlaysAJ
import Derived.Test.YtjhkadffaephmabGreatCutEnginePlaysBC
import Derived.Test.YtjhkadffaephmabGreatCutEnginePlaysBD
import Derived.Test.YtjhkadffaephmabGreatCutEnginePlaysBF
/-
 engine.deliver.
-/
namespace Go.Proofs.YtjhkadffaephmabGreat
set_option maxRecDepth 100000
open Go.RowKit

theorem deliver_not {n : Net} {e : Eng} {i : Nat} (h : ¬ n.heeds (e.bag.getD i noMail)) : e.deliver n i = e.without i := by
 unfold Eng.deliver Eng.take
 rw [if_neg h]
theorem deliver_yes {n : Net} {e : Eng} {i : Nat} (h : n.heeds (e.bag.getD i noMail)) : e.deliver n i = ((e.without i).tell (e.bag.getD i noMail).T.toNat (e.bag.getD i noMail).F.toNat (packet (e.bag.getD i noMail).b).R).look n (e.bag.getD i noMail).T.toNat := by
 unfold Eng.deliver Eng.take
 rw [if_pos h]

/-- Blocks of others are as they were, and stay those of others. -/
def KeptO (y y' : Lay) (P N : Nat) (Bv Bv' : Value) (w w' : World) : Prop := ∀ b, y.Off P N Bv w b → w'.heap[b]? = w.heap[b]? ∧ y'.Off P N Bv' w' b


set_option maxHeartbeats 4000000 in
theorem deliver_all (n : NetM) (base P N i : Nat) (e : Eng) (Bv : Value) (y : Lay) (w : World) (h : n.In base w) (hck : n.net.check = 0) (hN : n.nodes = N) (hL : Live base P N e Bv y w) (hfit : e.Fit n.net) (hi : i < e.bag.length) :
  Calls Tryz.prog 69 #[n.val, .pointer (some ⟨P, 0, none⟩), .int .i64 i] w fun r w' => r = .returned (.tuple #[]) ∧ (∃ Bv' y', Live base P N (e.deliver n.net i) Bv' y' w' ∧ KeptO y y' P N Bv Bv' w w') ∧ Below base w w' := by
 have g := Net.good_of_check hck
 have hs0 : 2 ≤ n.a.size := g.law.good.lo
 have hs1 : n.a.size ≤ 24 := g.law.good.hi
 have hi6 := g.hi
 have hNN : n.net.N = N := by show n.nodes.toNat = N; omega
 have hN6 : N ≤ 6 := by have : n.net.nodes = n.nodes := rfl; omega
 have hbw : base ≤ w.heap.size := Nat.le_of_lt (Nat.lt_of_le_of_lt hL.lp hL.head.lt)
 obtain ⟨m, hm⟩ : ∃ m, m = e.bag.getD i noMail := ⟨_, rfl⟩
 have hmail := hfit.mail m (by rw [hm]; exact getD_mem hi)
 obtain ⟨⟨hF0, hF1⟩, ⟨hT0, hT1⟩, hbl⟩ := hmail
 have hF1' : m.F < (N : Int) := by rw [← hN]; exact hF1
 have hT1' : m.T < (N : Int) := by rw [← hN]; exact hT1
 obtain ⟨W2, hW2⟩ : ∃ W2, W2 = (w.alloc (.cells n.cells 27)).alloc (.cells #[.int .i64 m.F, .int .i64 m.T, .string ⟨m.b.toArray⟩] 69) := ⟨_, rfl⟩
 have hB2 : Below w.heap.size w W2 := by rw [hW2]; exact ((Below.refl _ w).alloc (Nat.le_refl _) _).alloc (by simp) _
 have b3 : Blk W2 w.heap.size n.cells 27 := by rw [hW2]; exact (Blk.new w _ _).alloc _
 have b6 : Blk W2 (w.heap.size + 1) #[.int .i64 m.F, .int .i64 m.T, .string ⟨m.b.toArray⟩] 69 := by rw [hW2]; exact Blk.new' (by simp)
 have hL2 := hL.below hB2
 have hoff : ∀ b, w.heap.size ≤ b → b < W2.heap.size → y.Off P N Bv W2 b := fun b h1 h2 => ⟨by have := hL.head.lt; omega, by have := hL.rtrs.lt; omega, fun k hk => by have := (hL.tolds k hk).lt; omega, fun hv => by have := (hL.bag.lt _ hv).2; omega, h2, by have := hL.ylo; have := hL.head.lt; omega⟩
 have HLo := hide (lose_all base P N i e Bv y W2 hL2 hi (by have := hfit.many; omega))
 obtain ⟨gB, cap, hBv, m0, m1, m2⟩ := hL.mail hi
 rw [← hm] at m0 m1 m2
 have hglt : gB < w.heap.size := (hL.bag.lt gB (by rw [hBv]; rfl)).2
 have p1a : ∀ o, (w.alloc o).cell? ⟨P, 1, none⟩ = some Bv := fun o => by have := (hL.head.alloc o).cell 1; simpa using this
 have n0 : ∀ o q, (w.alloc o).cell? ⟨gB, q, none⟩ = w.cell? ⟨gB, q, none⟩ := fun o q => by rw [((Below.refl w.heap.size w).alloc (Nat.le_refl _) o).cell (p := ⟨gB, q, none⟩) hglt]
 have q0 : ∀ o, (w.alloc o).cell? ⟨gB, i * 3, none⟩ = some (.int .i64 m.F) := fun o => by rw [n0]; exact m0
 have q1 : ∀ o, (w.alloc o).cell? ⟨gB, i * 3 + 1, none⟩ = some (.int .i64 m.T) := fun o => by rw [n0]; exact m1
 have q2 : ∀ o, (w.alloc o).cell? ⟨gB, i * 3 + 2, none⟩ = some (.string ⟨m.b.toArray⟩) := fun o => by rw [n0]; exact m2
 rw [hBv] at p1a
 have hii : (i : Int) < (e.bag.length : Int) := by omega
 have hcells : n.cells = #[.int .i64 n.a.size, .slice n.a.B.ga n.a.B.t.len n.a.B.cap, .slice n.a.E.ga n.a.E.t.len n.a.E.cap, .int .i64 N, .slice n.la n.ln n.lc] := by simp only [NetM.cells, Mat.val, hN]
 have H := hide h
 have Hoff := hide hoff
 have HBv := hide hBv
 have HB2 := hide hB2
 have Hb3 := hide b3
 have Hb6 := hide b6
 have Hfit := hide hfit
 have Hm := hide hm
 have Hbw := hide hbw
 have HL0 := hide hL
 rw [hW2, hcells] at HLo
 rw [hcells] at hW2
 have HW2 := hide hW2
 have Hcells := hide hcells
 have HRd := hide (fun W => read_any m.b W (by unfold maxLen; omega))
 unfold txt at HRd
 have HN := hide hN
 generalize e.bag.length = len at *
 simp only [NetM.val, hcells]
 clear h hL hL2 hoff hBv hB2 b3 b6 hfit hm hbw hW2 m0 m1 m2 n0 hglt hcells hN
 go_enter Tryz.func69, Tryz.ntmps69
 go_wp2_with fail
 go_at_call 76
 refine HLo.out.mono ?_
 rintro r W3 ⟨rfl, ⟨Bv3, hl3, hbv3⟩, hb3, hk3⟩
 rw [← HW2.out] at hb3 hk3
 have Hk3 : Hid (∀ b, y.Off P N Bv w b → W3.heap[b]? = w.heap[b]? ∧ y.Off P N Bv3 W3 b) := hide (fun b hb => ⟨(hk3 b (hb.grown HB2.out.size)).trans (HB2.out.block b hb.lt), ⟨hb.p, hb.g, hb.t, fun hv => hb.v (by rw [← hbv3]; exact hv), Nat.lt_of_lt_of_le hb.lt (Nat.le_trans HB2.out.size hb3.size), hb.lo⟩⟩)
 have c3 := hk3.blk (Hoff.out _ (Nat.le_refl _) Hb3.out.lt) Hb3.out
 have c6 := hk3.blk (Hoff.out _ (by omega) Hb6.out.lt) Hb6.out
 have hB3 := (HB2.out.mono Hbw.out).trans hb3
 have d2 := c6.cell 2
 simp at d2
 have HL3 := hide hl3
 have HB3 := hide hB3
 have Hc3 := hide c3
 have Hc6 := hide c6
 clear hl3 hb3 hk3 hbv3 c3 c6 hB3 HLo p1a q0 q1 q2
 go_wp2_with fail
 go_at_call 87
 refine (HRd.out _).mono ?_
 rintro r W4 ⟨⟨p, rfl, hsame, hin, hlo⟩, hb4⟩
 obtain ⟨W5, hW5⟩ : ∃ W5, W5 = W4.alloc (.cells p.cells 76) := ⟨_, rfl⟩
 have hB5 : Below W3.heap.size W3 W5 := by rw [hW5]; exact hb4.alloc hb4.size _
 have c7 : Blk W5 W4.heap.size p.cells 76 := by rw [hW5]; exact Blk.new W4 _ _
 have hin5 : p.In W5.heap.size W5 := by rw [hW5]; exact hin.grown ((Below.refl _ W4).alloc (Nat.le_refl _) _)
 have hl5 := HL3.out.below hB5
 have c3 := Hc3.out.below hB5 Hc3.out.lt
 have c6 := Hc6.out.below hB5 Hc6.out.lt
 have hb3s : base ≤ W3.heap.size := Nat.le_of_lt (Nat.lt_of_le_of_lt HL3.out.lp HL3.out.head.lt)
 have hBw5 : Below base w W5 := HB3.out.trans (hB5.mono hb3s)
 have Hk5 : Hid (∀ b, y.Off P N Bv w b → W5.heap[b]? = w.heap[b]? ∧ y.Off P N Bv3 W5 b) := hide (fun b hb => ⟨(hB5.block b (Hk3.out b hb).2.lt).trans (Hk3.out b hb).1, (Hk3.out b hb).2.grown hB5.size⟩)
 have HX : Hid (∀ W, Below W5.heap.size W5 W → ¬ n.net.heeds m → (∃ Bv' y', Live base P N (e.deliver n.net i) Bv' y' W ∧ KeptO y y' P N Bv Bv' w W) ∧ Below base w W) := hide (fun W hb hn => by
  rw [Hm.out] at hn
  rw [deliver_not hn]
  exact ⟨⟨Bv3, y, hl5.below hb, fun b hb' => ⟨(hb.block b (Hk5.out b hb').2.lt).trans (Hk5.out b hb').1, (Hk5.out b hb').2.grown hb.size⟩⟩, hBw5.trans (hb.mono (Nat.le_trans hb3s hB5.size))⟩)
 have HS := hide hsame
 have Hin5 := hide hin5
 have HL5 := hide hl5
 have HB5 := hide hBw5
 have Hp7 := hide c7
 have Hp3 := hide c3
 have Hp6 := hide c6
 have Hlo : Hid (0 < p.n → W3.heap.size ≤ p.rb) := hide hlo
 have HW5 := hide hW5
 have k6 := Hc6.out.below hb4 Hc6.out.lt
 have k3 := Hc3.out.below hb4 Hc3.out.lt
 have r60 : ∀ o, (W4.alloc o).cell? ⟨w.heap.size + 1, 0, none⟩ = some (.int .i64 m.F) := fun o => by have := (k6.alloc o).cell 0; simpa using this
 have r61 : ∀ o, (W4.alloc o).cell? ⟨w.heap.size + 1, 1, none⟩ = some (.int .i64 m.T) := fun o => by have := (k6.alloc o).cell 1; simpa using this
 have r30 : ∀ o, (W4.alloc o).cell? ⟨w.heap.size, 0, none⟩ = some (.int .i64 n.a.size) := fun o => by have := (k3.alloc o).cell 0; simpa [Hcells.out] using this
 have r33 : ∀ o, (W4.alloc o).cell? ⟨w.heap.size, 3, none⟩ = some (.int .i64 N) := fun o => by have := (k3.alloc o).cell 3; simpa [Hcells.out] using this
 have hsm : p.n ≤ 17592186044416 := hin.small
 have HL3' := HL3
 clear k6 k3 hsame hin hlo hb4 hB5 c7 hin5 hl5 c3 c6 hb3s hBw5 d2 HL3 HB3 Hc3 Hc6 HRd
 by_cases k1 : readErr m.b = 0
 rotate_left
 ·have k1' : (readErr m.b == 0) = false := by simpa using k1
  have HP := hide (HX.out W5 (Below.refl _ _) (fun hh => k1 hh.1))
  rw [HW5.out] at HP
  simp only [PktM.val, PktM.cells] at *
  clear HX
  generalize readErr m.b = er at *
  go_wp2
  ((try simp only [Exit.inBlock, Exit.then]); refine bodyPost_ret (results_none rfl _ _ _) rfl ?_)
  exact ⟨rfl, HP.out⟩
 have hS : p.pkt.same (packet m.b) := by have := HS.out; unfold readOf at this; rwa [if_pos k1] at this
 have HS' := hide hS
 have HF' : Hid (p.F = (packet m.b).F) := hide hS.1
 have HT' : Hid (p.T = (packet m.b).T) := hide hS.2.1
 have Hn' : Hid (p.n = (packet m.b).n) := hide hS.2.2.1
 clear hS
 rw [k1]
 by_cases k2 : p.F = m.F
 rotate_left
 ·have HP := hide (HX.out W5 (Below.refl _ _) (fun hh => k2 (HF'.out.trans hh.2.1)))
  have k2' : (p.F == m.F) = false := by simpa using k2
  rw [HW5.out] at HP
  simp only [PktM.cells] at HP
  simp only [PktM.val, PktM.cells]
  clear HX
  go_wp2
  ((try simp only [Exit.inBlock, Exit.then]); refine bodyPost_ret (results_none rfl _ _ _) rfl ?_)
  exact ⟨rfl, HP.out⟩
 by_cases k3 : p.T = m.T
 rotate_left
 ·have HP := hide (HX.out W5 (Below.refl _ _) (fun hh => k3 (HT'.out.trans hh.2.2.1)))
  have k3' : (p.T == m.T) = false := by simpa using k3
  rw [HW5.out] at HP
  simp only [PktM.cells, k2] at HP
  simp only [PktM.val, PktM.cells, k2]
  clear HX
  go_wp2
  ((try simp only [Exit.inBlock, Exit.then]); refine bodyPost_ret (results_none rfl _ _ _) rfl ?_)
  exact ⟨rfl, HP.out⟩
 by_cases k4 : p.n = N
 rotate_left
 ·have HP := hide (HX.out W5 (Below.refl _ _) (fun hh => k4 (by have h1 := (Net.row_zero.1 hh.2.2.2.1).1; have h2 := HN.out; have h3 : n.net.nodes = n.nodes := rfl; rw [← Hn'.out] at h1; omega)))
  have k4' : ((p.n : Int) == (N : Int)) = false := by simp; omega
  rw [HW5.out] at HP
  simp only [PktM.cells, k2, k3] at HP
  simp only [PktM.val, PktM.cells, k2, k3]
  clear HX
  go_wp2
  ((try simp only [Exit.inBlock, Exit.then]); refine bodyPost_ret (results_none rfl _ _ _) rfl ?_)
  exact ⟨rfl, HP.out⟩
 have hints : Ints p.ra N p.rb p.ro p.R W5 := by have := Hin5.out.ints; rwa [k4] at this
 have HA := hide (sallBelow_any p.ra N p.rc p.rb p.ro p.R n.a.size W5 hints (fun h0 => Hin5.out.lt (by omega)))
 have Hints := hide hints
 clear hints
 have hW5 := HW5.out
 simp only [PktM.cells, k2, k3, k4] at hW5
 rw [hW5] at HA
 simp only [PktM.val, PktM.cells, k2, k3, k4]
 go_wp2_with fail
 go_at_call 58
 refine HA.out.mono ?_
 rw [← hW5]
 clear HA
 rintro r W6 ⟨rfl, hb6⟩
 have c3 := Hp3.out.below hb6 Hp3.out.lt
 have c6 := Hp6.out.below hb6 Hp6.out.lt
 have Hb6' := hide hb6
 have x60 := c6.cell 0
 have x61 := c6.cell 1
 have x30 := c3.cell 0
 have x31 := c3.cell 1
 have x32 := c3.cell 2
 have x33 := c3.cell 3
 have x34 := c3.cell 4
 simp only [Hcells.out] at x30 x31 x32 x33 x34
 simp at x60 x61 x30 x31 x32 x33 x34
 have hrow : rowIn N p.R n.a.size = true ↔ n.net.row (packet m.b).n (packet m.b).R = 0 := by
  have h2 := HN.out
  have h3 : n.net.nodes = n.nodes := rfl
  have h4 := Hn'.out
  have h5 := HS'.out.2.2.2
  rw [rowIn_iff, Net.row_zero]
  constructor
  ·intro h
   exact ⟨by omega, fun j hj => by rw [← h5 j (by show j < p.n; omega)]; exact h j (by omega)⟩
  ·intro h j hj
   have := h.2 j (by omega)
   rw [← h5 j (by show j < p.n; omega)] at this
   exact this
 have Hrow := hide hrow
 clear hrow c3 c6 hb6 r60 r61 r30 r33 hW5
 cases k5 : rowIn N p.R n.a.size with
 | false =>
  have HP := hide (HX.out W6 Hb6'.out (fun hh => by have := Hrow.out.2 hh.2.2.2.1; rw [k5] at this; cases this))
  clear HX
  go_wp2
  ((try simp only [Exit.inBlock, Exit.then]); refine bodyPost_ret (results_none rfl _ _ _) rfl ?_)
  exact ⟨rfl, HP.out⟩
 | true =>
  have hbase5 : base ≤ W5.heap.size := Nat.le_of_lt (Nat.lt_of_le_of_lt HL5.out.lp HL5.out.head.lt)
  have hn6 : n.In base W6 := (H.out.below HB5.out (Nat.le_refl _)).below Hb6'.out hbase5
  have HH := hide (hears_any n m.T m.F W6 (hn6.mono (Nat.le_trans hbase5 Hb6'.out.size)) hck)
  rw [NetM.val, Hcells.out] at HH
  have Hn6 := hide hn6
  have Hbase5 := hide hbase5
  clear hn6 hbase5
  go_wp2_with fail
  go_at_call 88
  refine HH.out.mono ?_
  clear HH
  rintro r W7 ⟨rfl, hb7⟩
  have Hb7 := hide hb7
  by_cases k6 : 0 ≤ n.net.edge m.T m.F
  rotate_left
  ·have HP := hide (HX.out W7 (Hb6'.out.trans (hb7.mono Hb6'.out.size)) (fun hh => k6 hh.2.2.2.2))
   simp only [k6, decide_false]
   clear HX hb7
   go_wp2
   ((try simp only [Exit.inBlock, Exit.then]); refine bodyPost_ret (results_none rfl _ _ _) rfl ?_)
   exact ⟨rfl, HP.out⟩
  simp only [k6, decide_true]
  clear HX
  go_wp2
  obtain ⟨tn, htn⟩ : ∃ tn : Nat, m.T = tn := ⟨m.T.toNat, by omega⟩
  obtain ⟨fn, hfn⟩ : ∃ fn : Nat, m.F = fn := ⟨m.F.toNat, by omega⟩
  have ht : tn < N := by omega
  have hf : fn < N := by omega
  have hb57 : Below W5.heap.size W5 W7 := Hb6'.out.trans (hb7.mono Hb6'.out.size)
  have hb57d : Below W5.heap.size W5 W7.drew := ⟨hb57.os, hb57.tape, hb57.output, hb57.size, hb57.block⟩
  have hl7 : Live base P N (e.without i) Bv3 y W7.drew := HL5.out.below hb57d
  have q6 := Hp6.out.below hb57d Hp6.out.lt
  have q7 := Hp7.out.below hb57d Hp7.out.lt
  have q3 := Hp3.out.below hb57d Hp3.out.lt
  have z60 := q6.cell 0
  have z61 := q6.cell 1
  have z72 := q7.cell 2
  have zh := hl7.head.cell 0
  have zr := hl7.rtrs.cell (tn * 2 + 1)
  rw [hl7.r1 tn ht] at zr
  have zt := (hl7.tolds tn ht).cell fn
  rw [hl7.t0 tn ht fn hf] at zt
  have zf := (hl7.tolds tn ht).frozen fn
  simp only [PktM.cells, k4] at z72
  simp [htn, hfn] at z60 z61 z72 zh
  have hti : (tn : Int) < (N : Int) := by omega
  have hfi : (fn : Int) < (N : Int) := by omega
  have hin7 := Hin5.out.below hb57d (Nat.le_refl _)
  have hlo3 : W3.heap.size ≤ p.rb := Hlo.out (by omega)
  have hoff7 : y.Off P N Bv3 W7.drew p.rb := ⟨by have := HL3'.out.head.lt; omega, by have := HL3'.out.rtrs.lt; omega, fun k hk => by have := (HL3'.out.tolds k hk).lt; omega, fun hv => by have := (HL3'.out.bag.lt _ hv).2; omega, Nat.lt_of_lt_of_le (hin7.lt (by omega)) hb57d.size, by have := HL3'.out.ylo; have := HL3'.out.head.lt; omega⟩
  have hset := hl7.setTold ht hf true (packet m.b).R p.ra p.rc p.rb p.ro (fun _ => ⟨hin7.ints.addr (by omega), hoff7, fun j hj => by rw [hin7.ints.cell j (by omega)]; exact congrArg (fun z => some (Value.int .i64 z)) (HS'.out.2.2.2 j (by show j < p.n; omega))⟩)
  simp only [if_true] at hset
  obtain ⟨W8, hW8⟩ : ∃ W8, W8 = W7.drew.setCell ⟨y.Tb tn, fn, none⟩ (.slice p.ra N p.rc) := ⟨_, rfl⟩
  rw [← hW8] at hset
  obtain ⟨y8, hset, hG8, hT8, hL8⟩ : ∃ y8 : Lay, Live base P N ((e.without i).tell tn fn (packet m.b).R) Bv3 y8 W8 ∧ y8.G = y.G ∧ y8.Tb = y.Tb ∧ y8.lo = y.lo := ⟨_, hset, rfl, rfl, rfl⟩
  have Hk8 : Hid (∀ b, y.Off P N Bv w b → W8.heap[b]? = w.heap[b]? ∧ y8.Off P N Bv3 W8 b) := hide (fun b hb => by
   obtain ⟨h1, h2⟩ := Hk5.out b hb
   have h3 := hb57d.block b h2.lt
   refine ⟨by rw [hW8, Below.heap_setCell _ _ _ _ (h2.t tn ht), h3]; exact h1, ⟨h2.p, by rw [hG8]; exact h2.g, by rw [hT8]; exact h2.t, h2.v, ?_, by rw [hL8]; exact h2.lo⟩⟩
   rw [hW8]; simpa using Nat.lt_of_lt_of_le h2.lt hb57d.size)
  have hB8 : Below base w W8 := by rw [hW8]; exact (HB5.out.trans (hb57d.mono Hbase5.out)).setCell (p := ⟨y.Tb tn, fn, none⟩) (HL0.out.lt tn ht) _
  have hn8 : n.In base W8 := H.out.below hB8 (Nat.le_refl _)
  have hheeds : n.net.heeds m := ⟨k1, HF'.out.symm.trans k2, HT'.out.symm.trans k3, Hrow.out.1 k5, k6⟩
  have hfit8 := (Hfit.out.without i).tell (i := tn) (k := fn) (f := (packet m.b).R) (fun j hj => by
   have := (Net.row_zero.1 hheeds.2.2.2.1).2 j (by have := Hn'.out; omega)
   exact this)
  have HLk := hide (engLook_all n base P N tn _ Bv3 y8 W8 hn8 hck HN.out hset hfit8 ht)
  have he : Eng.look n.net ((e.without i).tell tn fn (packet m.b).R) tn = e.deliver n.net i := by
   rw [Hm.out] at hheeds htn hfn
   rw [deliver_yes hheeds, ← Hm.out, show m.T.toNat = tn by rw [Hm.out]; omega, show m.F.toNat = fn by rw [Hm.out]; omega]
  have HLk : Hid (Calls Tryz.prog 71 #[n.val, .pointer (some ⟨P, 0, none⟩), .int .i64 tn] W8 fun r w' => r = .returned (.tuple #[]) ∧ (∃ y', Live base P N (e.deliver n.net i) Bv3 y' w' ∧ y'.G = y8.G ∧ y'.Tb = y8.Tb ∧ y'.lo = y8.lo) ∧ Below base W8 w' ∧ Kept y8 P N Bv3 W8 w') := by rw [← he]; exact HLk
  rw [NetM.val, Hcells.out] at HLk
  have hTlt := (HL0.out.tolds tn ht).lt
  have u3 : Blk W8 w.heap.size n.cells 27 := by rw [hW8]; exact q3.other (by omega) _ _
  have u6 : Blk W8 (w.heap.size + 1) #[.int .i64 m.F, .int .i64 m.T, .string ⟨m.b.toArray⟩] 69 := by rw [hW8]; exact q6.other (by omega) _ _
  have v30 := u3.cell 0
  have v31 := u3.cell 1
  have v32 := u3.cell 2
  have v33 := u3.cell 3
  have v34 := u3.cell 4
  have v61 := u6.cell 1
  simp only [Hcells.out] at v30 v31 v32 v33 v34
  simp [htn] at v30 v31 v32 v33 v34 v61
  have HB8 := hide hB8
  have HW8 := hide hW8
  clear HW5 Hm Hcells HBv HN HW2 HS HS' HF' HT' Hn' Hrow hheeds hfit8 he u3 u6 hn8 hB8 hset hoff7 hlo3 hin7 q6 q7 q3 hl7 hb57 hb57d hb7 hW8 hTlt k1 k2 k3 k4 k5 k6 x60 x61 x30 x31 x32 x33 x34 htn hfn hW5
  refine wp_region_last 14 _ (fun W => W = W7.drew) (valsE [.pointer (some ⟨P, 0, none⟩), .pointer (some ⟨P, 0, none⟩), .pointer (some ⟨P, 0, none⟩), .slice (some ⟨y.G, 0, none⟩) N y.gc, .pointer (some ⟨w.heap.size + 1, 1, none⟩), .int .i64 (tn : Int), .pointer (some ⟨y.G, tn * 2, none⟩), .pointer (some ⟨y.G, tn * 2 + 1, none⟩), .slice (some ⟨y.Tb tn, 0, none⟩) N (y.Tc tn), .pointer (some ⟨w.heap.size + 1, 0, none⟩), .int .i64 (fn : Int), .pointer (some ⟨W4.heap.size, 2, none⟩), .slice p.ra N p.rc, .pointer (some ⟨y.Tb tn, fn, none⟩)]) (fun _ W => W = W8) (fun _ _ _ => True) (by kernel_rfl) (by kernel_rfl) (by kernel_rfl) (by kernel_rfl) (by kernel_rfl) rfl rfl ⟨?_, ?_, ?_, ?_, ?_, ?_, ?_, ?_, ?_, ?_, ?_, ?_, ?_, ?_, trivial⟩ ?_ trivial ?_
  rotate_right
  ·intro t W hG _
   simp only [fill, Act.put, List.setIfInBounds_toArray, List.set_cons_zero, List.set_cons_succ]
   subst hG
   go_wp2_with fail
   go_at_call 71
   refine HLk.out.mono ?_
   rintro r w9 ⟨rfl, ⟨y9, hl9, hG9, hT9⟩, hb9, hk9⟩
   have HF : Hid ((∃ Bv' y', Live base P N (e.deliver n.net i) Bv' y' w9 ∧ KeptO y y' P N Bv Bv' w w9) ∧ Below base w w9) := hide ⟨⟨Bv3, y9, hl9, fun b hb => ⟨(hk9 b (Hk8.out b hb).2).trans (Hk8.out b hb).1, ⟨(Hk8.out b hb).2.p, by rw [hG9]; exact (Hk8.out b hb).2.g, by rw [hT9.1]; exact (Hk8.out b hb).2.t, (Hk8.out b hb).2.v, Nat.lt_of_lt_of_le (Hk8.out b hb).2.lt hb9.size, by rw [hT9.2]; exact (Hk8.out b hb).2.lo⟩⟩⟩, HB8.out.trans hb9⟩
   clear hl9 hb9 hk9 hG9 hT9 HB8 HLk
   go_wp2
   go_end0
   exact ⟨rfl, HF.out⟩
  rotate_right
  ·intro t W hG hE _ K hK
   have e12 := valsE_get (hE 12 (by omega)) rfl
   have e13 := valsE_get (hE 13 (by omega)) rfl
   subst hG
   simp only [fill, Act.put, List.setIfInBounds_toArray, List.set_cons_zero, List.set_cons_succ, e12, e13] at hK ⊢
   rw [if_pos (by rfl)]
   go_simp
   exact hK undef _ HW8.out.symm
  all_goals intro t W hG hp ht K hK
  all_goals clear ht
  all_goals subst hG
  all_goals simp only [fill, Act.put, List.setIfInBounds_toArray, List.set_cons_zero, List.set_cons_succ] at hK ⊢
  ·rw [if_pos (by rfl)]
   go_simp
   exact hK _ _ rfl rfl (fun _ _ _ h => h)
  ·have e0 := valsE_get (hp 0 (by decide)) rfl
   simp only [e0] at hK ⊢
   rw [if_pos (by rfl)]
   go_simp
   exact hK _ _ rfl rfl (fun _ _ _ h => h)
  ·have e1 := valsE_get (hp 1 (by decide)) rfl
   simp only [e1] at hK ⊢
   rw [if_pos (by rfl)]
   go_simp
   exact hK _ _ rfl rfl (fun _ _ _ h => h)
  ·have e2 := valsE_get (hp 2 (by decide)) rfl
   simp only [e2] at hK ⊢
   rw [if_pos (by rfl)]
   go_simp
   exact hK _ _ rfl rfl (fun _ _ _ h => h)
  ·rw [if_pos (by rfl)]
   go_simp
   exact hK _ _ rfl rfl (fun _ _ _ h => h)
  ·have e4 := valsE_get (hp 4 (by decide)) rfl
   simp only [e4] at hK ⊢
   rw [if_pos (by rfl)]
   go_simp
   exact hK _ _ rfl rfl (fun _ _ _ h => h)
  ·have e3 := valsE_get (hp 3 (by decide)) rfl
   have e5 := valsE_get (hp 5 (by decide)) rfl
   simp only [e3, e5] at hK ⊢
   rw [if_pos (by rfl)]
   go_simp
   exact hK _ _ rfl rfl (fun _ _ _ h => h)
  ·have e6 := valsE_get (hp 6 (by decide)) rfl
   simp only [e6] at hK ⊢
   rw [if_pos (by rfl)]
   go_simp
   exact hK _ _ rfl rfl (fun _ _ _ h => h)
  ·have e7 := valsE_get (hp 7 (by decide)) rfl
   simp only [e7] at hK ⊢
   rw [if_pos (by rfl)]
   go_simp
   exact hK _ _ rfl rfl (fun _ _ _ h => h)
  ·rw [if_pos (by rfl)]
   go_simp
   exact hK _ _ rfl rfl (fun _ _ _ h => h)
  ·have e9 := valsE_get (hp 9 (by decide)) rfl
   simp only [e9] at hK ⊢
   rw [if_pos (by rfl)]
   go_simp
   exact hK _ _ rfl rfl (fun _ _ _ h => h)
  ·rw [if_pos (by rfl)]
   go_simp
   exact hK _ _ rfl rfl (fun _ _ _ h => h)
  ·have e11 := valsE_get (hp 11 (by decide)) rfl
   simp only [e11] at hK ⊢
   rw [if_pos (by rfl)]
   go_simp
   exact hK _ _ rfl rfl (fun _ _ _ h => h)
  ·have e8 := valsE_get (hp 8 (by decide)) rfl
   have e10 := valsE_get (hp 10 (by decide)) rfl
   simp only [e8, e10] at hK ⊢
   rw [if_pos (by rfl)]
   go_simp
   exact hK _ _ rfl rfl (fun _ _ _ h => h)

theorem deliver_any (n : NetM) (base P N i : Nat) (e : Eng) (Bv : Value) (y : Lay) (w : World) (h : n.In base w) (hck : n.net.check = 0) (hN : n.nodes = N) (hL : Live base P N e Bv y w) (hfit : e.Fit n.net) (hi : i < e.bag.length) :
  Calls Tryz.prog 69 #[n.val, .pointer (some ⟨P, 0, none⟩), .int .i64 i] w fun r w' => r = .returned (.tuple #[]) ∧ (∃ Bv' y', Live base P N (e.deliver n.net i) Bv' y' w') ∧ Below base w w' :=
 (deliver_all n base P N i e Bv y w h hck hN hL hfit hi).mono (fun _ _ ⟨h1, ⟨B, y', h2, _⟩, h3⟩ => ⟨h1, ⟨B, y', h2⟩, h3⟩)

end Go.Proofs.YtjhkadffaephmabGreat

/-
  engine.expire.
-/
namespace Go.Proofs.YtjhkadffaephmabGreat
set_option maxRecDepth 100000
open Go.RowKit

theorem Eng.Fit.forget {n : Net} {e : Eng} (h : e.Fit n) (i k : Nat) : Eng.Fit n { e with told := fun a b => if a = i ∧ b = k then false else e.told a b } :=
  ⟨h.R, fun a b j ha hb hj ht => by
    have ht' : (if a = i ∧ b = k then false else e.told a b) = true := ht
    split at ht'
    · cases ht'
    · exact h.D a b j ha hb hj ht', h.many, h.mail⟩

set_option maxHeartbeats 2000000 in
theorem expire_bad (n : NetM) (base P N at_ : Nat) (of_ : Int) (e : Eng) (Bv : Value) (y : Lay) (w : World) (hN : n.nodes = N) (hL : Live base P N e Bv y w) (hof : of_ < 0 ∨ (N : Int) ≤ of_) :
    Calls Tryz.prog 73 #[n.val, .pointer (some ⟨P, 0, none⟩), .int .i64 at_, .int .i64 of_] w fun r w' => r = .returned (.int .i64 5) ∧ Live base P N e Bv y w' ∧ Below base w w' := by
  have hbw : base ≤ w.heap.size := Nat.le_of_lt (Nat.lt_of_le_of_lt hL.lp hL.head.lt)
  have hB : Below w.heap.size w (w.alloc (.cells n.cells 27)) := (Below.refl _ w).alloc (Nat.le_refl _) _
  have HF := hide (And.intro (hL.below hB) (hB.mono hbw))
  have HS := hide (fun W => sbelow_any of_ N W)
  have hv : (decide (0 ≤ of_) && decide (of_ < (N : Int))) = false := by simp; omega
  rw [hv] at HS
  simp only [NetM.val, NetM.cells, Mat.val, hN] at *
  clear hL hof hv hB
  go_enter Tryz.func73, Tryz.ntmps73
  go_wp2_with fail
  go_at_call 62
  refine (HS.out _).mono ?_
  rintro r w1 ⟨rfl, rfl⟩
  go_wp2
  go_ret
  exact ⟨rfl, HF.out.1, HF.out.2⟩

set_option maxHeartbeats 4000000 in
theorem expire_ok (n : NetM) (base P N at_ k : Nat) (e : Eng) (Bv : Value) (y : Lay) (w : World) (h : n.In base w) (hck : n.net.check = 0) (hN : n.nodes = N) (hL : Live base P N e Bv y w) (hfit : e.Fit n.net) (hat : at_ < N) (hk : k < N) :
    Calls Tryz.prog 73 #[n.val, .pointer (some ⟨P, 0, none⟩), .int .i64 at_, .int .i64 k] w fun r w' => r = .returned (.int .i64 0) ∧ (∃ y', Live base P N (e.expire n.net at_ k) Bv y' w') ∧ Below base w w' := by
  have hbw : base ≤ w.heap.size := Nat.le_of_lt (Nat.lt_of_le_of_lt hL.lp hL.head.lt)
  obtain ⟨W1, hW1⟩ : ∃ W1, W1 = w.alloc (.cells n.cells 27) := ⟨_, rfl⟩
  have hB : Below w.heap.size w W1 := by rw [hW1]; exact (Below.refl _ w).alloc (Nat.le_refl _) _
  have b0 : Blk W1 w.heap.size n.cells 27 := by rw [hW1]; exact Blk.new w _ _
  have hL1 := hL.below hB
  have hTl := (hL.tolds at_ hat).lt
  have hset := hL1.setTold hat hk false (e.D at_ k) none 0 0 0 (fun h => by cases h)
  have he : ({ e with told := fun a b => if a = at_ ∧ b = k then false else e.told a b, D := fun r q => if r = at_ ∧ q = k then e.D at_ k else e.D r q } : Eng) = { e with told := fun a b => if a = at_ ∧ b = k then false else e.told a b } := by
    congr 1
    funext r q
    by_cases e1 : r = at_ ∧ q = k
    · rw [if_pos e1, e1.1, e1.2]
    · rw [if_neg e1]
  rw [he] at hset
  simp only [Bool.false_eq_true, if_false] at hset
  have hBs : Below base w (W1.setCell ⟨y.Tb at_, k, none⟩ (.slice none 0 0)) := (hB.mono hbw).setCell (p := ⟨y.Tb at_, k, none⟩) (hL.lt at_ hat) _
  have HLk := hide (engLook_any n base P N at_ _ Bv _ _ (h.below hBs (Nat.le_refl _)) hck hN hset (hfit.forget at_ k) hat)
  have bs := b0.other (C := y.Tb at_) (by omega) k (.slice none 0 0)
  have x0 := bs.cell 0
  have x1 := bs.cell 1
  have x2 := bs.cell 2
  have x3 := bs.cell 3
  have x4 := bs.cell 4
  have h0 := hL1.head.cell 0
  have h1 := hL1.rtrs.cell (at_ * 2 + 1)
  rw [hL.r1 at_ hat] at h1
  have h2 := (hL1.tolds at_ hat).cell k
  rw [hL.t0 at_ hat k hk] at h2
  have hf := (hL1.tolds at_ hat).frozen k
  have y3 := b0.cell 3
  have HS := hide (fun W => sbelow_any (k : Int) N W)
  have hv : (decide (0 ≤ (k : Int)) && decide ((k : Int) < (N : Int))) = true := by simp; omega
  rw [hv] at HS
  have hai : (at_ : Int) < (N : Int) := by omega
  have hki : (k : Int) < (N : Int) := by omega
  have HBs := hide hBs
  rw [hW1] at HLk HBs x0 x1 x2 x3 x4 h0 h1 h2 hf y3
  simp only [NetM.val, NetM.cells, Mat.val, hN] at *
  simp at x0 x1 x2 x3 x4 h0 y3
  clear h hck hL hfit hB b0 hL1 hset he hBs bs hv hW1 hTl hbw
  go_enter Tryz.func73, Tryz.ntmps73
  go_wp2_with fail
  go_at_call 62
  refine (HS.out _).mono ?_
  rintro r w1 ⟨rfl, rfl⟩
  go_wp2_with fail
  go_at_call 71
  refine HLk.out.mono ?_
  rintro r w2 ⟨rfl, hl2, hb2⟩
  have HF := hide (And.intro hl2 (HBs.out.trans hb2))
  clear hl2 hb2 HBs HLk
  go_wp2
  go_ret
  exact ⟨rfl, HF.out.1, HF.out.2⟩

end Go.Proofs.YtjhkadffaephmabGreat

/-
  An event to an engine: each kind as one answer.
-/
namespace Go.Proofs.YtjhkadffaephmabGreat
set_option maxRecDepth 100000
open Go.RowKit

/-- What an event answers and leaves. -/
def EvAns (base P N : Nat) (err : Int) (e' : Eng) (w : World) (r : Ending) (w' : World) : Prop :=
  r = .returned (.int .i64 err) ∧ (∃ Bv' y', Live base P N e' Bv' y' w') ∧ Below base w w'

/-- An event where it lies. -/
structure EvM where
  kind : Int
  loc : Int
  b : Int
  c : Int
  ra : Option Addr
  rl : Nat
  rc : Nat
  rb : Nat
  ro : Nat
  R : Nat → Int
def EvM.cells (v : EvM) : Array Value := #[.int .i64 v.kind, .int .i64 v.loc, .int .i64 v.b, .int .i64 v.c, .slice v.ra v.rl v.rc]
def EvM.val (v : EvM) : Value := .agg v.cells
def EvM.ev (v : EvM) : Ev := ⟨v.kind, v.loc, v.b, v.c, v.rl, v.R⟩
structure EvM.In (v : EvM) (N : Nat) (w : World) : Prop where
  ints : Ints v.ra v.rl v.rb v.ro v.R w
  lt : 0 < v.rl → v.rb < N
  len : v.rl ≤ maxLen
theorem EvM.In.below {v : EvM} {N k : Nat} {w w' : World} (h : v.In N w) (hb : Below k w w') (hk : N ≤ k) : v.In N w' := ⟨h.ints.below hb (fun h0 => Nat.lt_of_lt_of_le (h.lt h0) hk), h.lt, h.len⟩
theorem EvM.In.mono {v : EvM} {N k : Nat} {w : World} (h : v.In N w) (hk : N ≤ k) : v.In k w := ⟨h.ints, fun h0 => Nat.lt_of_lt_of_le (h.lt h0) hk, h.len⟩

section
variable {n : NetM} {base P N : Nat} {e : Eng} {Bv : Value} {y : Lay} {w : World}

theorem nodes_six (hck : n.net.check = 0) (hN : n.nodes = N) : 0 < N ∧ N ≤ 6 ∧ n.net.N = N ∧ n.net.nodes = (N : Int) := by
  have g := Net.good_of_check hck
  have h1 := g.lo
  have h2 := g.hi
  have h3 : n.net.nodes = n.nodes := rfl
  refine ⟨by omega, by omega, by show n.nodes.toNat = N; omega, by omega⟩

theorem tick_any (i : Nat) (h : n.In base w) (hck : n.net.check = 0) (hN : n.nodes = N) (hL : Live base P N e Bv y w) (hfit : e.Fit n.net) (hi : i < N) :
    Calls Tryz.prog 41 #[n.val, .pointer (some ⟨P, 0, none⟩), .int .i64 i] w fun r w' => EvAns base P N (if 120 < e.bag.length + (n.net.hearers i).length then 2 else 0) (if 120 < e.bag.length + (n.net.hearers i).length then e else e.tick n.net i) w r w' := by
  by_cases hb : 120 < e.bag.length + (n.net.hearers i).length
  · simp only [if_pos hb]
    exact (tick_many n base P N i e Bv y w h hck hN hL hfit.many hb).mono (fun r w' ⟨h1, h2, h3⟩ => ⟨h1, ⟨Bv, y, h2⟩, h3⟩)
  · simp only [if_neg hb]
    exact (tick_ok n base P N i e Bv y w h hck hN hL hfit hi (by omega)).mono (fun r w' h => h)

theorem expire_any (i : Nat) (b : Int) (h : n.In base w) (hck : n.net.check = 0) (hN : n.nodes = N) (hL : Live base P N e Bv y w) (hfit : e.Fit n.net) (hi : i < N) :
    Calls Tryz.prog 73 #[n.val, .pointer (some ⟨P, 0, none⟩), .int .i64 i, .int .i64 b] w fun r w' => EvAns base P N (if b < 0 ∨ n.net.nodes ≤ b then 5 else 0) (if b < 0 ∨ n.net.nodes ≤ b then e else e.expire n.net i b.toNat) w r w' := by
  obtain ⟨h0, h6, hNN, hnn⟩ := nodes_six hck hN
  by_cases hb : b < 0 ∨ n.net.nodes ≤ b
  · simp only [if_pos hb]
    exact (expire_bad n base P N i b e Bv y w hN hL (by omega)).mono (fun r w' ⟨h1, h2, h3⟩ => ⟨h1, ⟨Bv, y, h2⟩, h3⟩)
  · simp only [if_neg hb]
    obtain ⟨k, rfl⟩ : ∃ k : Nat, b = k := ⟨b.toNat, by omega⟩
    exact (expire_ok n base P N i k e Bv y w h hck hN hL hfit hi (by omega)).mono (fun r w' ⟨h1, ⟨y', h2⟩, h3⟩ => ⟨h1, ⟨Bv, y', h2⟩, h3⟩)

theorem restart_any (i : Nat) (v : EvM) (hv : v.In w.heap.size w) (hck : n.net.check = 0) (hN : n.nodes = N) (hL : Live base P N e Bv y w) (hi : i < N) :
    Calls Tryz.prog 74 #[n.val, .pointer (some ⟨P, 0, none⟩), .int .i64 i, .slice v.ra v.rl v.rc] w fun r w' => EvAns base P N (n.net.row v.rl v.R) (if n.net.row v.rl v.R = 0 then e.restart i v.R else e) w r w' := by
  obtain ⟨h0, h6, hNN, hnn⟩ := nodes_six hck hN
  by_cases hl : v.rl = N
  · have hints := hv.ints
    have hlt := hv.lt
    rw [hl] at hints hlt ⊢
    cases hr : rowIn N v.R n.a.size with
    | true =>
      have hz : n.net.row N v.R = 0 := Net.row_zero.2 ⟨hnn.symm, rowIn_iff.1 hr⟩
      rw [hz, if_pos rfl]
      exact (restart_ok n base P N i v.ra v.rc v.rb v.ro v.R e Bv y w hN h6 h0 hL hints (hlt h0) hr hi).mono (fun r w' ⟨h1, ⟨y', h2⟩, h3⟩ => ⟨h1, ⟨Bv, y', h2⟩, h3⟩)
    | false =>
      have hz : n.net.row N v.R = 5 := by
        unfold Net.row
        rw [if_neg (by omega), if_pos]
        exact hr
      rw [hz, if_neg (by decide)]
      exact (restart_none n base P N i v.ra v.rc v.rb v.ro v.R e Bv y w hN h6 hL hints hlt hr).mono (fun r w' ⟨h1, h2, h3⟩ => ⟨h1, ⟨Bv, y, h2⟩, h3⟩)
  · have hz : n.net.row v.rl v.R = 1 := by
      unfold Net.row
      rw [if_pos (by omega)]
    rw [hz, if_neg (by decide)]
    exact (restart_form n base P N i v.ra v.rl v.rc e Bv y w hN hL hl h6 hv.len).mono (fun r w' ⟨h1, h2, h3⟩ => ⟨h1, ⟨Bv, y, h2⟩, h3⟩)

theorem twice_all (i : Nat) (hL : Live base P N e Bv y w) (hi : i < e.bag.length) (hm : e.bag.length ≤ 120) :
    Calls Tryz.prog 75 #[.pointer (some ⟨P, 0, none⟩), .int .i64 i] w fun r w' => EvAns base P N (if 120 ≤ e.bag.length then 2 else 0) (if 120 ≤ e.bag.length then e else e.twice i) w r w' := by
  by_cases hb : 120 ≤ e.bag.length
  · simp only [if_pos hb]
    exact (twice_many base P N i e Bv y w hL hb (by omega)).mono (fun r w' ⟨h1, h2, h3⟩ => ⟨h1, ⟨Bv, y, h2⟩, h3⟩)
  · simp only [if_neg hb]
    exact (twice_ok base P N i e Bv y w hL hi (by omega)).mono (fun r w' ⟨h1, ⟨B', h2⟩, h3⟩ => ⟨h1, ⟨B', y, h2⟩, h3⟩)

theorem spoil_any (i : Nat) (b c : Int) (hL : Live base P N e Bv y w) (hi : i < e.bag.length) (hm : e.bag.length ≤ 120) (hlen : (e.bag.getD i noMail).b.length ≤ 60) :
    Calls Tryz.prog 77 #[.pointer (some ⟨P, 0, none⟩), .int .i64 i, .int .i64 b, .int .i64 c] w fun r w' => EvAns base P N (if (b < 0 ∨ ((e.bag.getD i noMail).b.length : Int) ≤ b) ∨ (c < 1 ∨ 255 < c) then 3 else 0) (if (b < 0 ∨ ((e.bag.getD i noMail).b.length : Int) ≤ b) ∨ (c < 1 ∨ 255 < c) then e else e.spoil i b.toNat (u8 c)) w r w' := by
  by_cases hb : (b < 0 ∨ ((e.bag.getD i noMail).b.length : Int) ≤ b) ∨ (c < 1 ∨ 255 < c)
  · simp only [if_pos hb]
    exact (spoil_bad base P N i b c e Bv y w hL hi hlen (by omega) hb).mono (fun r w' ⟨h1, h2, h3⟩ => ⟨h1, ⟨Bv, y, h2⟩, h3⟩)
  · simp only [if_neg hb]
    obtain ⟨k, rfl⟩ : ∃ k : Nat, b = k := ⟨b.toNat, by omega⟩
    exact (spoil_ok base P N i k c e Bv y w hL hi hlen (by omega) (by omega) (by omega) (by omega)).mono (fun r w' ⟨h1, h2, h3⟩ => ⟨h1, ⟨Bv, y, h2⟩, h3⟩)

end

end Go.Proofs.YtjhkadffaephmabGreat

/-
 engine.atNode, engine.atMail, engine.happen.
-/
namespace Go.Proofs.YtjhkadffaephmabGreat
set_option maxRecDepth 100000
open Go.RowKit

/-- What stands while an event is looked at. -/
structure HapG (base P N : Nat) (n : NetM) (v : EvM) (b3 b5 : Nat) (e : Eng) (Bv : Value) (y : Lay) (w1 W : World) : Prop where
 live : Live base P N e Bv y W
 net : Blk W b3 n.cells 27
 ev : Blk W b5 v.cells 34
 below : Below w1.heap.size w1 W
theorem HapG.keep {base P N : Nat} {n : NetM} {v : EvM} {b3 b5 : Nat} {e : Eng} {Bv : Value} {y : Lay} {w1 W W' : World} (h : HapG base P N n v b3 b5 e Bv y w1 W) (hb : Below W.heap.size W W') : HapG base P N n v b3 b5 e Bv y w1 W' := ⟨h.live.below hb, h.net.below hb h.net.lt, h.ev.below hb h.ev.lt, h.below.trans (hb.mono h.below.size)⟩

theorem EvAns.from {base P N : Nat} {err : Int} {e' : Eng} {w W : World} {r : Ending} {w' : World} (hb : Below base w W) (h : EvAns base P N err e' W r w') : EvAns base P N err e' w r w' := ⟨h.1, h.2.1, hb.trans h.2.2⟩

set_option maxHeartbeats 400000 in
theorem atNode_any (n : NetM) (v : EvM) (base P N : Nat) (e : Eng) (Bv : Value) (y : Lay) (w : World) (h : n.In base w) (hck : n.net.check = 0) (hN : n.nodes = N) (hL : Live base P N e Bv y w) (hfit : e.Fit n.net) (hv : v.In base w) (hk : v.kind = 1 ∨ v.kind = 6 ∨ v.kind = 7) :
  Calls Tryz.prog 45 #[n.val, .pointer (some ⟨P, 0, none⟩), v.val] w fun r w' => EvAns base P N (e.stepErr n.net v.ev) (if e.stepErr n.net v.ev = 0 then e.step n.net v.ev else e) w r w' := by
 obtain ⟨hN0, hN6, hNN, hnn⟩ := nodes_six hck hN
 obtain ⟨kind, loc, b, c, ra, rl, rc, rb, ro, f⟩ := v
 have hbw : base ≤ w.heap.size := Nat.le_of_lt (Nat.lt_of_le_of_lt hL.lp hL.head.lt)
 have hcells : n.cells = #[.int .i64 n.a.size, .slice n.a.B.ga n.a.B.t.len n.a.B.cap, .slice n.a.E.ga n.a.E.t.len n.a.E.cap, .int .i64 N, .slice n.la n.ln n.lc] := by simp only [NetM.cells, Mat.val, hN]
 obtain ⟨W1, hW1⟩ : ∃ W1, W1 = (w.alloc (.cells n.cells 27)).alloc (.cells #[.int .i64 kind, .int .i64 loc, .int .i64 b, .int .i64 c, .slice ra rl rc] 34) := ⟨_, rfl⟩
 have hB1 : Below w.heap.size w W1 := by rw [hW1]; exact ((Below.refl _ w).alloc (Nat.le_refl _) _).alloc (by simp) _
 have hBb := hB1.mono hbw
 have hL1 := hL.below hB1
 have h1 := h.below hBb (Nat.le_refl _)
 have hv1 := (hv.below hBb (Nat.le_refl _)).mono (Nat.le_trans hbw hB1.size)
 have b3 : Blk W1 w.heap.size n.cells 27 := by rw [hW1]; exact (Blk.new w _ _).alloc _
 have b5 : Blk W1 (w.heap.size + 1) #[.int .i64 kind, .int .i64 loc, .int .i64 b, .int .i64 c, .slice ra rl rc] 34 := by rw [hW1]; exact Blk.new' (by simp)
 have HX : Hid (∀ W, Below W1.heap.size W1 W → (∃ Bv' y', Live base P N e Bv' y' W) ∧ Below base w W) := hide (fun W hb => ⟨⟨Bv, y, hL1.below hb⟩, hBb.trans (hb.mono (Nat.le_trans hbw hB1.size))⟩)
 have HL1 := hide hL1
 have H1 := hide h1
 have Hv1 := hide hv1
 have HBb := hide hBb
 have Hfit := hide hfit
 have HS := hide (fun W => sbelow_any loc N W)
 have x0 := b3.cell 0
 have x1 := b3.cell 1
 have x2 := b3.cell 2
 have x3 := b3.cell 3
 have x4 := b3.cell 4
 have v0 := b5.cell 0
 have v1 := b5.cell 1
 have v2 := b5.cell 2
 have v4 := b5.cell 4
 simp only [hcells] at x0 x1 x2 x3 x4
 simp at x0 x1 x2 x3 x4 v0 v1 v2 v4
 rw [hcells] at hW1
 have HW1 := hide hW1
 have HN := hide hN
 have Hcells := hide hcells
 rw [NetM.val, EvM.val, EvM.cells, hcells]
 have hk' : kind = 1 ∨ kind = 6 ∨ kind = 7 := hk
 clear h hL hv hk hbw hcells hB1 hBb hL1 h1 hv1 b3 b5 hW1 hfit hN
 by_cases hl : loc < 0 ∨ (N : Int) ≤ loc
 ·have hvv : (decide (0 ≤ loc) && decide (loc < (N : Int))) = false := by simp; omega
  rw [hvv] at HS
  have hst : e.stepErr n.net (EvM.ev ⟨kind, loc, b, c, ra, rl, rc, rb, ro, f⟩) = 5 := by
   unfold Eng.stepErr EvM.ev
   simp only []
   rw [if_neg (by omega), if_neg (by omega), if_pos (by omega)]
  rw [hst, if_neg (by decide)]
  have HF := hide (HX.out W1 (Below.refl _ _))
  rw [HW1.out] at HF
  clear hst hvv HX hl hk' x0 x1 x2 x3 x4 v0 v1 v2 v4 hnn hNN
  go_enter Tryz.func45, Tryz.ntmps45
  go_wp2_with fail
  go_at_call 62
  refine (HS.out _).mono ?_
  rintro r w2 ⟨rfl, rfl⟩
  go_wp2
  go_ret
  exact ⟨rfl, HF.out⟩
 obtain ⟨i, rfl⟩ : ∃ i : Nat, loc = i := ⟨loc.toNat, by omega⟩
 have hi : i < N := by omega
 have hvv : (decide (0 ≤ (i : Int)) && decide ((i : Int) < (N : Int))) = true := by simp; omega
 rw [hvv] at HS
 rcases hk' with rfl | rfl | rfl
 ·have hst : e.stepErr n.net (EvM.ev ⟨1, (i : Int), b, c, ra, rl, rc, rb, ro, f⟩) = if 120 < e.bag.length + (n.net.hearers i).length then 2 else 0 := by
   unfold Eng.stepErr EvM.ev
   simp only []
   rw [if_neg (by omega), if_neg (by omega), if_neg (by omega)]
   rfl
  have hsp : e.step n.net (EvM.ev ⟨1, (i : Int), b, c, ra, rl, rc, rb, ro, f⟩) = e.tick n.net i := by
   unfold Eng.step EvM.ev
   rfl
  have HC := hide (tick_any i H1.out hck HN.out HL1.out Hfit.out hi)
  have he : (if ((if 120 < e.bag.length + (n.net.hearers i).length then 2 else 0 : Int)) = 0 then e.tick n.net i else e) = (if 120 < e.bag.length + (n.net.hearers i).length then e else e.tick n.net i) := by
   by_cases hq : 120 < e.bag.length + (n.net.hearers i).length
   ·rw [if_pos hq, if_pos hq]; rfl
   ·rw [if_neg hq, if_neg hq]; rfl
  rw [hst, hsp, he]
  clear he
  generalize (if 120 < e.bag.length + (n.net.hearers i).length then e else e.tick n.net i) = e2 at HC ⊢
  generalize (if 120 < e.bag.length + (n.net.hearers i).length then (2 : Int) else 0) = er at HC ⊢
  rw [NetM.val, Hcells.out] at HC
  generalize hans : EvAns base P N = ans at HC ⊢
  have HA : Hid (∀ err e' r w', ans err e' W1 r w' → ans err e' w r w' ∧ r = .returned (.int .i64 err)) := hide (by rw [← hans]; intro err e' r w' hh; exact ⟨hh.from HBb.out, hh.1⟩)
  clear hst hsp HX hvv hl hans hnn hNN HL1 H1 Hv1 HBb Hfit
  rw [HW1.out] at HC HA
  clear x0 x1 x2 x3 x4 v0 v1 v2 v4
  go_enter Tryz.func45, Tryz.ntmps45
  go_wp2_with fail
  go_at_call 62
  refine (HS.out _).mono ?_
  rintro r w2 ⟨rfl, rfl⟩
  go_wp2_with fail
  go_at_call 41
  refine HC.out.mono ?_
  intro r w3 hh
  obtain ⟨h2, rfl⟩ := HA.out _ _ _ _ hh
  have H2 := hide h2
  clear hh h2 HC HA
  go_wp2
  first
  | exact H2.out
  | (go_ret; exact H2.out)
 ·have hst : e.stepErr n.net (EvM.ev ⟨6, (i : Int), b, c, ra, rl, rc, rb, ro, f⟩) = if b < 0 ∨ n.net.nodes ≤ b then 5 else 0 := by
   unfold Eng.stepErr EvM.ev
   simp only []
   rw [if_neg (by omega), if_neg (by omega), if_neg (by omega)]
   rfl
  have hsp : e.step n.net (EvM.ev ⟨6, (i : Int), b, c, ra, rl, rc, rb, ro, f⟩) = e.expire n.net i b.toNat := by
   unfold Eng.step EvM.ev
   rfl
  have HC := hide (expire_any i b H1.out hck HN.out HL1.out Hfit.out hi)
  have he : (if ((if b < 0 ∨ n.net.nodes ≤ b then 5 else 0 : Int)) = 0 then e.expire n.net i b.toNat else e) = (if b < 0 ∨ n.net.nodes ≤ b then e else e.expire n.net i b.toNat) := by
   by_cases hq : b < 0 ∨ n.net.nodes ≤ b
   ·rw [if_pos hq, if_pos hq]; rfl
   ·rw [if_neg hq, if_neg hq]; rfl
  rw [hst, hsp, he]
  clear he
  generalize (if b < 0 ∨ n.net.nodes ≤ b then e else e.expire n.net i b.toNat) = e2 at HC ⊢
  generalize (if b < 0 ∨ n.net.nodes ≤ b then (5 : Int) else 0) = er at HC ⊢
  rw [NetM.val, Hcells.out] at HC
  generalize hans : EvAns base P N = ans at HC ⊢
  have HA : Hid (∀ err e' r w', ans err e' W1 r w' → ans err e' w r w' ∧ r = .returned (.int .i64 err)) := hide (by rw [← hans]; intro err e' r w' hh; exact ⟨hh.from HBb.out, hh.1⟩)
  clear hst hsp HX hvv hl hans hnn hNN HL1 H1 Hv1 HBb Hfit
  rw [HW1.out] at HC HA
  clear x0 x1 x2 x3 x4 v0 v1 v2 v4
  go_enter Tryz.func45, Tryz.ntmps45
  go_wp2_with fail
  go_at_call 62
  refine (HS.out _).mono ?_
  rintro r w2 ⟨rfl, rfl⟩
  go_wp2_with fail
  go_at_call 73
  refine HC.out.mono ?_
  intro r w3 hh
  obtain ⟨h2, rfl⟩ := HA.out _ _ _ _ hh
  have H2 := hide h2
  clear hh h2 HC HA
  go_wp2
  first
  | exact H2.out
  | (go_ret; exact H2.out)
 ·have hst : e.stepErr n.net (EvM.ev ⟨7, (i : Int), b, c, ra, rl, rc, rb, ro, f⟩) = n.net.row rl f := by
   unfold Eng.stepErr EvM.ev
   simp only []
   rw [if_neg (by omega), if_neg (by omega), if_neg (by omega)]
   rfl
  have hsp : e.step n.net (EvM.ev ⟨7, (i : Int), b, c, ra, rl, rc, rb, ro, f⟩) = e.restart i f := by
   unfold Eng.step EvM.ev
   rfl
  have HC := hide (restart_any i ⟨7, i, b, c, ra, rl, rc, rb, ro, f⟩ Hv1.out hck HN.out HL1.out hi)
  rw [hst, hsp]
  have HC9 := HC
  clear HC
  have HC : Hid (Calls Tryz.prog 74 #[n.val, .pointer (some ⟨P, 0, none⟩), .int .i64 i, .slice ra rl rc] W1 fun r w' => EvAns base P N (n.net.row rl f) (if n.net.row rl f = 0 then e.restart i f else e) W1 r w') := HC9
  clear HC9
  generalize (if n.net.row rl f = 0 then e.restart i f else e) = e2 at HC ⊢
  generalize n.net.row rl f = er at HC ⊢
  rw [NetM.val, Hcells.out] at HC
  generalize hans : EvAns base P N = ans at HC ⊢
  have HA : Hid (∀ err e' r w', ans err e' W1 r w' → ans err e' w r w' ∧ r = .returned (.int .i64 err)) := hide (by rw [← hans]; intro err e' r w' hh; exact ⟨hh.from HBb.out, hh.1⟩)
  clear hst hsp HX hvv hl hans hnn hNN HL1 H1 Hv1 HBb Hfit
  rw [HW1.out] at HC HA
  clear x0 x1 x2 x3 x4 v0 v1 v2 v4
  go_enter Tryz.func45, Tryz.ntmps45
  go_wp2_with fail
  go_at_call 62
  refine (HS.out _).mono ?_
  rintro r w2 ⟨rfl, rfl⟩
  go_wp2_with fail
  go_at_call 74
  refine HC.out.mono ?_
  intro r w3 hh
  obtain ⟨h2, rfl⟩ := HA.out _ _ _ _ hh
  have H2 := hide h2
  clear hh h2 HC HA
  go_wp2
  first
  | exact H2.out
  | (go_ret; exact H2.out)

end Go.Proofs.YtjhkadffaephmabGreat
