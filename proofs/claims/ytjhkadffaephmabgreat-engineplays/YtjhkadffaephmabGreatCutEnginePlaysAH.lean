/-
  Our own texts, bundled: a claim holds few files.
-/
import Derived.Test.YtjhkadffaephmabGreatCutEnginePlaysAG
import Derived.Laws.EntriesVeiled
import Derived.Test.YtjhkadffaephmabGreatCutEnginePlaysAD
import Derived.Test.YtjhkadffaephmabGreatCutEnginePlaysAE
/-
  engine.checkRouters, checkBag, Check.
-/
namespace Go.Proofs.YtjhkadffaephmabGreat
set_option maxRecDepth 100000
open Go.RowKit

set_option maxHeartbeats 2000000 in
theorem checkRouters_any (n : NetM) (x : RtrsM) (w : World) (h : x.In w.heap.size w) :
    Calls Tryz.prog 28 #[n.val, x.val] w fun e w' => e = .returned (.int .i64 (x.err n.net)) ∧ Below w.heap.size w w' := by
  obtain ⟨W1, hW1⟩ : ∃ W1, W1 = w.alloc (.cells n.cells 27) := ⟨_, rfl⟩
  have hB : Below w.heap.size w W1 := by rw [hW1]; exact (Below.refl _ w).alloc (Nat.le_refl _) _
  have b1 : Blk W1 w.heap.size n.cells 27 := by rw [hW1]; exact Blk.new w _ _
  have hlen := h.len
  unfold maxLen at hlen
  have HA := hide (containsFunc_rtrs 54 #[.pointer (some ⟨w.heap.size, 0, none⟩)] x (fun i => !(x.r i).shaped n.nodes) W1 (h.grown hB) calls_cr1 (fun i W hi hb => by
    have hr := ((h.grown hB).below hb (Nat.le_refl _)).r i hi
    exact cr1_any n (x.r i) w.heap.size W (hr.mono hb.size) (b1.below hb b1.lt)))
  have HC := hide (fun (W : World) (hb : Below W1.heap.size W1 W) (b6 : Nat) (hb6 : b6 < W.heap.size) (h6 : W.cell? ⟨b6, 0, none⟩ = some (.func (.func 57) #[] #[.pointer (some ⟨w.heap.size, 0, none⟩)])) =>
    containsFunc_rtrs 59 #[.pointer (some ⟨b6, 0, none⟩)] x (fun i => !(x.r i).sound n.a.size) W ((h.grown hB).grown hb) calls_cr3 (fun i W' hi hb' => by
      have hr := (((h.grown hB).grown hb).below hb' (Nat.le_refl _)).r i hi
      have hlt := Nat.lt_of_lt_of_le (Nat.lt_of_lt_of_le b1.lt hb.size) hb'.size
      refine cr3_any (x.r i) w.heap.size b6 n.a.size W' (hr.mono hb'.size) hlt (((b1.below hb b1.lt).below hb' (Nat.lt_of_lt_of_le b1.lt hb.size)).cell 0) (Nat.lt_of_lt_of_le hb6 hb'.size) ?_
      rw [hb'.cell (p := ⟨b6, 0, none⟩) hb6]; exact h6))
  have Hdef : Hid (x.err n.net = if (x.gn : Int) ≠ n.nodes ∨ ((List.range x.gn).any fun i => !(x.r i).shaped n.nodes) = true then 1 else if ((List.range x.gn).any fun i => !(x.r i).sound n.a.size) = true then 5 else 0) := hide rfl
  generalize ((List.range x.gn).any fun i => !(x.r i).shaped n.nodes) = v1 at *
  generalize ((List.range x.gn).any fun i => !(x.r i).sound n.a.size) = v2 at *
  have HB := hide hB
  have Hb1 := hide b1
  have x3 := b1.cell 3
  simp [NetM.cells] at x3
  simp only [NetM.val, NetM.cells, Mat.val, RtrsM.val] at *
  have HW1 := hide hW1
  by_cases hg : (x.gn : Int) = n.nodes
  · have hg' : ((x.gn : Int) != n.nodes) = false := by simp [hg]
    rw [hW1] at HA x3
    clear h hB b1 hW1
    go_enter Tryz.func28, Tryz.ntmps28
    go_wp2_with fail
    go_at_call 56
    refine HA.out.mono ?_
    rintro e w2 ⟨rfl, hb2⟩
    rw [← HW1.out] at hb2
    have HB2 := hide (HB.out.trans (hb2.mono HB.out.size))
    by_cases hv1 : v1 = true
    · have Hf : Hid (x.err n.net = 1) := hide (by rw [Hdef.out, if_pos (Or.inr hv1)])
      subst hv1
      clear hb2 HA HC Hdef
      go_wp2
      go_ret
      exact ⟨by rw [Hf.out]; rfl, HB2.out⟩
    · have hv1' : v1 = false := by simpa using hv1
      have Hd2 : Hid (x.err n.net = if v2 = true then 5 else 0) := hide (by rw [Hdef.out, if_neg (by rintro (e | e); exact e hg; exact hv1 e)])
      subst hv1'
      have b6 := Blk.new w2 #[.func (.func 57) #[] #[.pointer (some ⟨w.heap.size, 0, none⟩)]] 102
      have hb6 : Below w2.heap.size w2 (w2.alloc (.cells #[.func (.func 57) #[] #[.pointer (some ⟨w.heap.size, 0, none⟩)]] 102)) := (Below.refl _ _).alloc (Nat.le_refl _) _
      have HC2 := hide (HC.out _ (hb2.trans (hb6.mono hb2.size)) w2.heap.size b6.lt (b6.cell 0))
      have HB6 := hide (HB2.out.trans (hb6.mono HB2.out.size))
      clear hb2 HA HC Hdef hv1 b6 hb6 HB2
      go_wp2_with fail
      go_at_call 56
      refine HC2.out.mono ?_
      rintro e w3 ⟨rfl, hb3⟩
      have HB3 := hide (HB6.out.trans (hb3.mono HB6.out.size))
      clear hb3 HC2 HB6
      by_cases hv2 : v2 = true
      · have Hf : Hid (x.err n.net = 5) := hide (by rw [Hd2.out, if_pos hv2])
        subst hv2
        clear Hd2
        go_wp2
        go_ret
        exact ⟨by rw [Hf.out]; rfl, HB3.out⟩
      · have hv2' : v2 = false := by simpa using hv2
        have Hf : Hid (x.err n.net = 0) := hide (by rw [Hd2.out, if_neg hv2])
        subst hv2'
        clear Hd2 hv2
        go_wp2
        go_ret
        exact ⟨by rw [Hf.out]; rfl, HB3.out⟩
  · have hg' : ((x.gn : Int) != n.nodes) = true := by simp [hg]
    have Hf : Hid (x.err n.net = 1) := hide (by rw [Hdef.out, if_pos (Or.inl hg)])
    rw [hW1] at HB
    clear h hB b1 hW1 HA HC Hdef hg x3
    go_enter Tryz.func28, Tryz.ntmps28
    go_wp2
    go_ret
    exact ⟨by rw [Hf.out]; rfl, HB.out⟩

set_option maxHeartbeats 1000000 in
theorem cb1_any (m : Mail) (bx : Nat) (n : Int) (w : World) (hx : w.cell? ⟨bx, 3, none⟩ = some (.int .i64 n)) (hbx : bx < w.heap.size) :
    Calls Tryz.prog 61 #[.agg #[.int .i64 m.F, .int .i64 m.T, .string ⟨m.b.toArray⟩], .pointer (some ⟨bx, 0, none⟩)] w fun e w' => e = .returned (.bool (!(decide (0 ≤ m.F) && decide (m.F < n)) || !(decide (0 ≤ m.T) && decide (m.T < n)))) ∧ Below w.heap.size w w' := by
  have HB : Hid (Below w.heap.size w (w.alloc (.cells #[.int .i64 m.F, .int .i64 m.T, .string ⟨m.b.toArray⟩] 69))) := hide ((Below.refl _ w).alloc (Nat.le_refl _) _)
  have x3 : ∀ o, (w.alloc o).cell? ⟨bx, 3, none⟩ = some (.int .i64 n) := fun o => by rw [((Below.refl w.heap.size w).alloc (Nat.le_refl _) o).cell (p := ⟨bx, 3, none⟩) hbx]; exact hx
  have H1 := hide (fun W => sbelow_any m.F n W)
  have H2 := hide (fun W => sbelow_any m.T n W)
  generalize (decide (0 ≤ m.F) && decide (m.F < n)) = v1 at *
  generalize (decide (0 ≤ m.T) && decide (m.T < n)) = v2 at *
  go_enter Tryz.func61, Tryz.ntmps61
  go_wp2_with fail
  go_at_call 62
  refine (H1.out _).mono ?_
  rintro e w1 ⟨rfl, rfl⟩
  cases v1 with
  | true =>
    go_wp2_with fail
    go_at_call 62
    refine (H2.out _).mono ?_
    rintro e w1 ⟨rfl, rfl⟩
    go_wp2
    go_ret
    exact ⟨rfl, HB.out⟩
  | false =>
    go_wp2
    go_ret
    exact ⟨rfl, HB.out⟩

set_option maxHeartbeats 1000000 in
theorem cb2_any (m : Mail) (w : World) (hm : m.b.length ≤ maxLen) :
    Calls Tryz.prog 64 #[.agg #[.int .i64 m.F, .int .i64 m.T, .string ⟨m.b.toArray⟩]] w fun e w' => e = .returned (.bool (decide (60 < m.b.length))) ∧ Below w.heap.size w w' := by
  have HB : Hid (Below w.heap.size w (w.alloc (.cells #[.int .i64 m.F, .int .i64 m.T, .string ⟨m.b.toArray⟩] 69))) := hide ((Below.refl _ w).alloc (Nat.le_refl _) _)
  have hsz : (ByteArray.mk m.b.toArray).size = m.b.length := by simp [ByteArray.size]
  unfold maxLen at hm
  generalize ByteArray.mk m.b.toArray = s at *
  go_enter Tryz.func64, Tryz.ntmps64
  go_wp2
  go_ret
  refine ⟨?_, HB.out⟩
  by_cases h : 60 < m.b.length
  · have : (60 : Int) < (m.b.length : Int) := by omega
    simp [h, this]
  · have : ¬ (60 : Int) < (m.b.length : Int) := by omega
    simp [h, this]

set_option maxHeartbeats 2000000 in
theorem checkBag_any (n : NetM) (x : BagM) (w : World) (h : x.In w.heap.size w) :
    Calls Tryz.prog 29 #[n.val, x.val] w fun e w' => e = .returned (.int .i64 (x.err n.net)) ∧ Below w.heap.size w w' := by
  obtain ⟨W1, hW1⟩ : ∃ W1, W1 = w.alloc (.cells n.cells 27) := ⟨_, rfl⟩
  have hB : Below w.heap.size w W1 := by rw [hW1]; exact (Below.refl _ w).alloc (Nat.le_refl _) _
  have b1 : Blk W1 w.heap.size n.cells 27 := by rw [hW1]; exact Blk.new w _ _
  have hlen := h.len
  unfold maxLen at hlen
  have HA := hide (containsFunc_bag 61 #[.pointer (some ⟨w.heap.size, 0, none⟩)] x (fun i => !(decide (0 ≤ (x.M i).F) && decide ((x.M i).F < n.nodes)) || !(decide (0 ≤ (x.M i).T) && decide ((x.M i).T < n.nodes))) W1 (h.grown hB) calls_cb1 (fun i W hi hb =>
    cb1_any (x.M i) w.heap.size n.nodes W ((b1.below hb b1.lt).cell 3) (Nat.lt_of_lt_of_le b1.lt hb.size)))
  have HC := hide (fun (W : World) (hb : Below W1.heap.size W1 W) => containsFunc_bag 64 #[] x (fun i => decide (60 < (x.M i).b.length)) W ((h.grown hB).grown hb) calls_cb2 (fun i W' hi hb' => cb2_any (x.M i) W' (h.lens i hi)))
  have Hdef : Hid (x.err n.net = if 120 < x.bn then 2 else if ((List.range x.bn).any fun i => !(decide (0 ≤ (x.M i).F) && decide ((x.M i).F < n.nodes)) || !(decide (0 ≤ (x.M i).T) && decide ((x.M i).T < n.nodes))) = true then 5 else if ((List.range x.bn).any fun i => decide (60 < (x.M i).b.length)) = true then 2 else 0) := hide rfl
  generalize ((List.range x.bn).any fun i => !(decide (0 ≤ (x.M i).F) && decide ((x.M i).F < n.nodes)) || !(decide (0 ≤ (x.M i).T) && decide ((x.M i).T < n.nodes))) = v1 at *
  generalize ((List.range x.bn).any fun i => decide (60 < (x.M i).b.length)) = v2 at *
  have HB := hide hB
  simp only [NetM.val, NetM.cells, Mat.val, BagM.val] at *
  have HW1 := hide hW1
  by_cases hg : 120 < x.bn
  · have hg' : (120 : Int) < (x.bn : Int) := by omega
    have Hf : Hid (x.err n.net = 2) := hide (by rw [Hdef.out, if_pos hg])
    rw [hW1] at HB
    clear h hB b1 hW1 HA HC Hdef hg
    go_enter Tryz.func29, Tryz.ntmps29
    go_wp2
    go_ret
    exact ⟨by rw [Hf.out]; rfl, HB.out⟩
  · have hg' : ¬ (120 : Int) < (x.bn : Int) := by omega
    rw [hW1] at HA
    clear h hB b1 hW1
    go_enter Tryz.func29, Tryz.ntmps29
    go_wp2_with fail
    go_at_call 63
    refine HA.out.mono ?_
    rintro e w2 ⟨rfl, hb2⟩
    rw [← HW1.out] at hb2
    have HB2 := hide (HB.out.trans (hb2.mono HB.out.size))
    by_cases hv1 : v1 = true
    · have Hf : Hid (x.err n.net = 5) := hide (by rw [Hdef.out, if_neg hg, if_pos hv1])
      subst hv1
      clear hb2 HA HC Hdef
      go_wp2
      go_ret
      exact ⟨by rw [Hf.out]; rfl, HB2.out⟩
    · have hv1' : v1 = false := by simpa using hv1
      have Hd2 : Hid (x.err n.net = if v2 = true then 2 else 0) := hide (by rw [Hdef.out, if_neg hg, if_neg hv1])
      subst hv1'
      have HC2 := hide (HC.out _ hb2)
      clear hb2 HA HC Hdef hv1
      go_wp2_with fail
      go_at_call 63
      refine HC2.out.mono ?_
      rintro e w3 ⟨rfl, hb3⟩
      have HB3 := hide (HB2.out.trans (hb3.mono HB2.out.size))
      clear hb3 HC2 HB2
      by_cases hv2 : v2 = true
      · have Hf : Hid (x.err n.net = 2) := hide (by rw [Hd2.out, if_pos hv2])
        subst hv2
        clear Hd2
        go_wp2
        go_ret
        exact ⟨by rw [Hf.out]; rfl, HB3.out⟩
      · have hv2' : v2 = false := by simpa using hv2
        have Hf : Hid (x.err n.net = 0) := hide (by rw [Hd2.out, if_neg hv2])
        subst hv2'
        clear Hd2 hv2
        go_wp2
        go_ret
        exact ⟨by rw [Hf.out]; rfl, HB3.out⟩

set_option maxHeartbeats 2000000 in
theorem engineCheck_any (n : NetM) (x : EngM) (w : World) (h : n.In w.heap.size w) (hx : x.In w.heap.size w) :
    Calls Tryz.prog 9 #[n.val, x.val] w fun e w' => e = .returned (.int .i64 (x.err n.net)) ∧ Below w.heap.size w w' := by
  obtain ⟨W1, hW1⟩ : ∃ W1, W1 = (w.alloc (.cells n.cells 27)).alloc (.cells x.cells 31) := ⟨_, rfl⟩
  have hB : Below w.heap.size w W1 := by rw [hW1]; exact ((Below.refl _ w).alloc (Nat.le_refl _) _).alloc (by simp) _
  have b1 : Blk W1 w.heap.size n.cells 27 := by rw [hW1]; exact (Blk.new w _ _).alloc _
  have c1 : Blk W1 (w.heap.size + 1) x.cells 31 := by rw [hW1]; exact Blk.new' (by simp)
  have HA := hide (netCheck_any n W1 (h.grown hB))
  have HR := hide (fun (W : World) (hb : Below W1.heap.size W1 W) => checkRouters_any n x.rs W ((hx.rs.grown hB).grown hb))
  have HG := hide (fun (W : World) (hb : Below W1.heap.size W1 W) => checkBag_any n x.bag W ((hx.bag.grown hB).grown hb))
  have Hdef : Hid (x.err n.net = if n.net.check ≠ 0 then n.net.check else if x.rs.err n.net ≠ 0 then x.rs.err n.net else x.bag.err n.net) := hide rfl
  generalize n.net.check = e1 at *
  generalize x.rs.err n.net = e2 at *
  generalize x.bag.err n.net = e3 at *
  have HB := hide hB
  have Hb1 := hide b1
  have Hc1 := hide c1
  simp only [NetM.val, NetM.cells, Mat.val, EngM.val, EngM.cells, RtrsM.val, BagM.val] at *
  rw [hW1] at HA
  have HW1 := hide hW1
  clear h hx hB b1 c1 hW1
  go_enter Tryz.func9, Tryz.ntmps9
  go_wp2_with fail
  go_at_call 27
  refine HA.out.mono ?_
  rintro e w2 ⟨rfl, hb2⟩
  rw [← HW1.out] at hb2
  have HB2 := hide (HB.out.trans (hb2.mono HB.out.size))
  have b2 := Hb1.out.below hb2 Hb1.out.lt
  have c2 := Hc1.out.below hb2 Hc1.out.lt
  have x0 := b2.cell 0
  have x1 := b2.cell 1
  have x2 := b2.cell 2
  have x3 := b2.cell 3
  have x4 := b2.cell 4
  have y0 := c2.cell 0
  simp at x0 x1 x2 x3 x4 y0
  by_cases h1 : e1 = 0
  · subst h1
    have HR2 := hide (HR.out w2 hb2)
    clear HA HR b2 c2 HB HW1
    go_wp2_with fail
    go_at_call 28
    refine HR2.out.mono ?_
    rintro e w3 ⟨rfl, hb3⟩
    have HB3 := hide (HB2.out.trans (hb3.mono HB2.out.size))
    have hb13 := hb2.trans (hb3.mono hb2.size)
    have b3 := Hb1.out.below hb13 Hb1.out.lt
    have c3 := Hc1.out.below hb13 Hc1.out.lt
    have x0 := b3.cell 0
    have x1 := b3.cell 1
    have x2 := b3.cell 2
    have x3 := b3.cell 3
    have x4 := b3.cell 4
    have y1 := c3.cell 1
    simp at x0 x1 x2 x3 x4 y1
    by_cases h2 : e2 = 0
    · subst h2
      have Hf : Hid (x.err n.net = e3) := hide (by rw [Hdef.out]; simp)
      have HG2 := hide (HG.out w3 hb13)
      clear HG HR2 b3 c3 hb13 hb3 hb2 HB2 Hdef
      go_wp2_with fail
      go_at_call 29
      refine HG2.out.mono ?_
      rintro e w4 ⟨rfl, hb4⟩
      have HB4 := hide (HB3.out.trans (hb4.mono HB3.out.size))
      clear hb4 HB3 HG2
      go_wp2
      go_ret
      exact ⟨by rw [Hf.out]; rfl, HB4.out⟩
    · have h2' : (e2 != 0) = true := by simpa using h2
      have Hf : Hid (x.err n.net = e2) := hide (by rw [Hdef.out]; simp [h2])
      clear HG HR2 b3 c3 hb13 hb3 hb2 HB2 Hdef h2
      go_wp2
      go_ret
      exact ⟨by rw [Hf.out]; rfl, HB3.out⟩
  · have h1' : (e1 != 0) = true := by simpa using h1
    have Hf : Hid (x.err n.net = e1) := hide (by rw [Hdef.out]; simp [h1])
    clear HA HR HG Hdef h1 b2 c2 hb2
    go_wp2
    go_ret
    exact ⟨by rw [Hf.out]; rfl, HB2.out⟩

end Go.Proofs.YtjhkadffaephmabGreat

/-
  engine.hears, hearers.
-/
namespace Go.Proofs.YtjhkadffaephmabGreat
set_option maxRecDepth 100000
open Go.RowKit

theorem Net.edge_any {n : Net} (g : n.Good) (i k : Int) : ((List.range n.ln).any fun l => n.F l == i && n.T l == k) = decide (0 ≤ n.edge i k) := by
  unfold Net.edge
  cases hf : (List.range n.ln).find? fun l => n.F l == i && n.T l == k with
  | none =>
    have := List.find?_eq_none.1 hf
    have e : ((List.range n.ln).any fun l => n.F l == i && n.T l == k) = false := by
      rw [List.any_eq_false]; exact this
    rw [e]; rfl
  | some l =>
    have hm := List.mem_of_find?_eq_some hf
    have hp := List.find?_some hf
    have e : ((List.range n.ln).any fun l => n.F l == i && n.T l == k) = true := List.any_eq_true.2 ⟨l, hm, hp⟩
    rw [e]
    have := (g.link l (List.mem_range.1 hm)).2.2.2.2.1
    simp [this]

theorem calls_hears1 (args : Array Value) (W : World) : (callFunc 99 args).run Tryz.prog W = .ok (.enter 99 args) W := by rfl

set_option maxHeartbeats 400000 in
theorem hears1_any (F T E i k : Int) (bi bk : Nat) (w : World) (hi : w.cell? ⟨bi, 0, none⟩ = some (.int .i64 i)) (hk : w.cell? ⟨bk, 0, none⟩ = some (.int .i64 k)) (li : bi < w.heap.size) (lk : bk < w.heap.size) :
    Calls Tryz.prog 99 #[.agg #[.int .i64 F, .int .i64 T, .int .i64 E], .pointer (some ⟨bi, 0, none⟩), .pointer (some ⟨bk, 0, none⟩)] w fun e w' => e = .returned (.bool (F == i && T == k)) ∧ Below w.heap.size w w' := by
  have HB : Hid (Below w.heap.size w (w.alloc (.cells #[.int .i64 F, .int .i64 T, .int .i64 E] 65))) := hide ((Below.refl _ w).alloc (Nat.le_refl _) _)
  have xi : ∀ o, (w.alloc o).cell? ⟨bi, 0, none⟩ = some (.int .i64 i) := fun o => by rw [((Below.refl w.heap.size w).alloc (Nat.le_refl _) o).cell (p := ⟨bi, 0, none⟩) li]; exact hi
  have xk : ∀ o, (w.alloc o).cell? ⟨bk, 0, none⟩ = some (.int .i64 k) := fun o => by rw [((Below.refl w.heap.size w).alloc (Nat.le_refl _) o).cell (p := ⟨bk, 0, none⟩) lk]; exact hk
  by_cases h : F = i
  · have h' : (F == i) = true := by simp [h]
    have Hf : Hid ((F == i && T == k) = (T == k)) := hide (by rw [h']; rfl)
    clear h
    go_enter Tryz.func99, Tryz.ntmps99
    go_wp2
    go_ret
    exact ⟨by rw [Hf.out]; rfl, HB.out⟩
  · have h' : (F == i) = false := by simp [h]
    have Hf : Hid ((F == i && T == k) = false) := hide (by rw [h']; rfl)
    clear h
    go_enter Tryz.func99, Tryz.ntmps99
    go_wp2
    go_ret
    exact ⟨by rw [Hf.out]; rfl, HB.out⟩

set_option maxHeartbeats 1000000 in
theorem hears_any (n : NetM) (i k : Int) (w : World) (h : n.In w.heap.size w) (hck : n.net.check = 0) :
    Calls Tryz.prog 88 #[n.val, .int .i64 i, .int .i64 k] w fun e w' => e = .returned (.bool (decide (0 ≤ n.net.edge i k))) ∧ Below w.heap.size w w' := by
  obtain ⟨W1, hW1⟩ : ∃ W1, W1 = ((w.alloc (.cells n.cells 27)).alloc (.cells #[.int .i64 i] 3)).alloc (.cells #[.int .i64 k] 3) := ⟨_, rfl⟩
  have hB : Below w.heap.size w W1 := by rw [hW1]; exact (((Below.refl _ w).alloc (Nat.le_refl _) _).alloc (by simp) _).alloc (by simp; omega) _
  have bi : Blk W1 (w.heap.size + 1) #[.int .i64 i] 3 := by rw [hW1]; exact (Blk.new' (by simp)).alloc _
  have bk : Blk W1 (w.heap.size + 1 + 1) #[.int .i64 k] 3 := by rw [hW1]; exact Blk.new' (by simp)
  have HC := hide (containsFunc_links 99 #[.pointer (some ⟨w.heap.size + 1, 0, none⟩), .pointer (some ⟨w.heap.size + 1 + 1, 0, none⟩)] n (fun l => n.F l == i && n.T l == k) W1 (h.grown hB) calls_hears1 (fun l W hl hb => by
    exact hears1_any (n.F l) (n.T l) (n.E l) i k (w.heap.size + 1) (w.heap.size + 1 + 1) W ((bi.below hb bi.lt).cell 0) ((bk.below hb bk.lt).cell 0) (Nat.lt_of_lt_of_le bi.lt hb.size) (Nat.lt_of_lt_of_le bk.lt hb.size)))
  have he := Net.edge_any (Net.good_of_check hck) i k
  have he2 : ((List.range n.ln).any fun l => n.F l == i && n.T l == k) = decide (0 ≤ n.net.edge i k) := he
  rw [he2] at HC
  generalize decide (0 ≤ n.net.edge i k) = v at *
  have HB := hide hB
  rw [hW1] at HC HB
  simp only [NetM.val, NetM.cells, Mat.val] at *
  clear h hck he he2 hB bi bk hW1
  go_enter Tryz.func88, Tryz.ntmps88
  go_wp2_with fail
  go_at_call 98
  refine HC.out.mono ?_
  rintro e w1 ⟨rfl, hb1⟩
  have HB1 := hide (HB.out.trans (hb1.mono HB.out.size))
  clear hb1 HB HC
  go_wp2
  go_ret
  exact ⟨rfl, HB1.out⟩

/-- The first so many nodes, those that hear. -/
def Net.hearTo (n : Net) (i k : Nat) : List Nat := (List.range k).filter fun q => decide (0 ≤ n.edge q i)
theorem Net.hearTo_succ (n : Net) (i k : Nat) : n.hearTo i (k + 1) = n.hearTo i k ++ (if 0 ≤ n.edge k i then [k] else []) := by
  unfold Net.hearTo
  rw [List.range_succ, List.filter_append]
  congr 1
  by_cases h : 0 ≤ n.edge k i
  · simp [h]
  · simp [h]
theorem Net.hearTo_le (n : Net) (i k : Nat) : (n.hearTo i k).length ≤ k := by
  have := List.length_filter_le (fun q : Nat => decide (0 ≤ n.edge q i)) (List.range k)
  simpa [Net.hearTo] using this
def natsL (l : List Nat) : List Value := l.map fun (q : Nat) => Value.int .i64 (q : Int)

set_option maxHeartbeats 2000000 in
theorem hearers_any (n : NetM) (i : Nat) (w : World) (h : n.In w.heap.size w) (hck : n.net.check = 0) :
    Calls Tryz.prog 70 #[n.val, .int .i64 i] w fun e w' => (∃ v, e = .returned v ∧ w'.ownsRow w.heap.size 3 1 v (n.net.hearers i).length (natsL (n.net.hearers i))) ∧ Below w.heap.size w w' := by
  have g := Net.good_of_check hck
  have hi6 := g.hi
  obtain ⟨N, hN⟩ : ∃ N : Nat, n.nodes = N := ⟨n.nodes.toNat, by have := g.lo; have : n.net.nodes = n.nodes := rfl; omega⟩
  have hNN : n.net.N = N := by show n.nodes.toNat = N; omega
  have hN6 : N ≤ 6 := by have : n.net.nodes = n.nodes := rfl; omega
  obtain ⟨i1, hi1, hy0, hy1, hy2⟩ := info_parts Tryz.infoInt
  obtain ⟨W1, hW1⟩ : ∃ W1, W1 = w.alloc (.cells n.cells 27) := ⟨_, rfl⟩
  have hB : Below w.heap.size w W1 := by rw [hW1]; exact (Below.refl _ w).alloc (Nat.le_refl _) _
  have b1 : Blk W1 w.heap.size n.cells 27 := by rw [hW1]; exact Blk.new w _ _
  have HH := hide (fun (k : Nat) (W : World) (hb : Below W1.heap.size W1 W) => hears_any n k i W ((h.grown hB).grown hb) hck)
  have Hend : Hid (n.net.hearTo i N = n.net.hearers i) := hide (by unfold Net.hearTo Net.hearers; rw [hNN])
  have Hws : Hid (W1.heap.size = w.heap.size + 1) := hide (by rw [hW1]; simp)
  have hcells : n.cells = #[.int .i64 n.a.size, .slice n.a.B.ga n.a.B.t.len n.a.B.cap, .slice n.a.E.ga n.a.E.t.len n.a.E.cap, .int .i64 N, .slice n.la n.ln n.lc] := by simp only [NetM.cells, Mat.val, hN]
  simp only [NetM.val, hcells] at *
  have HB := hide hB
  have Hb1 := hide b1
  clear h hck g hi6 hB b1 hN hNN
  go_enter Tryz.func70, Tryz.ntmps70
  go_wp2
  rw [← hW1]
  clear hW1 hcells
  go_loopw [5, 6, 9] (fun v _ q wr => ∃ k : Nat, k ≤ N ∧ q = .int .i64 k ∧ Hid (wr.ownsRow W1.heap.size 3 1 v (n.net.hearTo i k).length (natsL (n.net.hearTo i k))) ∧ Hid (Below W1.heap.size W1 wr)) (fun _ _ q _ => N - (intOf q).toNat)
  case atStart => exact ⟨0, Nat.zero_le _, rfl, hide (World.ownsRow_nil _ _ _ _), hide (Below.refl _ _)⟩
  case round =>
    obtain ⟨k, hk, rfl, HO, HBr⟩ := hrel
    have b2 := Hb1.out.below HBr.out Hb1.out.lt
    have x0 := b2.cell 0
    have x1 := b2.cell 1
    have x2 := b2.cell 2
    have x3 := b2.cell 3
    have x4 := b2.cell 4
    simp at x0 x1 x2 x3 x4
    by_cases hlt : k < N
    · have hki : (k : Int) < (N : Int) := by omega
      have HC := hide (HH.out k wr HBr.out)
      have hle := n.net.hearTo_le i k
      clear b2
      go_wp2_with fail
      go_at_call 88
      refine HC.out.mono ?_
      rintro e w2 ⟨rfl, hb2⟩
      have HB2 := hide (HBr.out.trans (hb2.mono HBr.out.size))
      have HO2 := hide (owns_below HO.out hb2)
      by_cases he : 0 ≤ n.net.edge k i
      · have hd : decide (0 ≤ n.net.edge k i) = true := by simp [he]
        have hs : n.net.hearTo i (k + 1) = n.net.hearTo i k ++ [k] := by rw [Net.hearTo_succ, if_pos he]
        have Hs : Hid ((n.net.hearTo i (k + 1)).length = (n.net.hearTo i k).length + 1 ∧ natsL (n.net.hearTo i (k + 1)) = natsL (n.net.hearTo i k) ++ [.int .i64 (k : Int)]) := hide (by rw [hs]; simp [natsL])
        generalize (n.net.hearTo i k).length = len at *
        rw [hd]
        clear he hd hs HC hb2 HO
        go_wp2_with (at_builtin; refine wpList_append_lies _ rfl _ _ _ rfl W1.heap.size 3 i1 _ 1 8 Tryz.underlying32 hi1 hy0 hy1 hy2 rfl (by decide) _ len _ rfl (HO2.out.alloc _) ⟨w2.heap.size, 0, none⟩ 1 1 [.int .i64 (k : Int)] rfl rfl ?c1 ?c2 (by decide) ?c3 ?c4 ?c5 _ rfl ?_)
        all_goals try (case c1 => exact World.news_of_block (Blk.new' (by simp)))
        all_goals try (case c2 => simp [Value.oneCell'])
        all_goals try (case c3 => unfold maxLen; omega)
        all_goals try (case c4 => omega)
        all_goals try (case c5 => have := HB2.out.size; simp; omega)
        intro g' cap' w4 hown2 hgrow hat2 hlt2
        have HB4 := hide ((HB2.out.alloc HB2.out.size (.cells #[.int .i64 (k : Int)] 3)).trans (grown_below hgrow (fun g hg => (HO2.out.lt g hg).1) (by have := HB2.out.size; simp; omega)))
        have HO4 : Hid (w4.ownsRow W1.heap.size 3 1 (.slice (some ⟨g', 0, none⟩) (len + 1) cap') (n.net.hearTo i (k + 1)).length (natsL (n.net.hearTo i (k + 1)))) := hide (by rw [Hs.out.1, Hs.out.2]; exact hown2)
        clear hown2 hgrow hat2 hlt2 HB2 HO2 Hs
        go_wp2
        go_roundw
        case rel =>
          first
          | exact ⟨k + 1, by omega, by go_num, HO4, HB4⟩
          | ((repeat apply Exists.intro); refine ⟨?_, rfl⟩; exact ⟨k + 1, by omega, by go_num, HO4, HB4⟩)
        case measure => simp [intOf]; omega
      · have hd : decide (0 ≤ n.net.edge k i) = false := by simp; omega
        have hs : n.net.hearTo i (k + 1) = n.net.hearTo i k := by rw [Net.hearTo_succ, if_neg he, List.append_nil]
        rw [hd]
        rw [← hs] at HO2
        clear he hd hs HC hb2 HO
        go_wp2
        go_roundw
        case rel =>
          first
          | exact ⟨k + 1, by omega, by go_num, HO2, HB2⟩
          | ((repeat apply Exists.intro); refine ⟨?_, rfl⟩; exact ⟨k + 1, by omega, by go_num, HO2, HB2⟩)
        case measure => simp [intOf]; omega
    · have hkn : k = N := by omega
      subst hkn
      rw [Hend.out] at HO
      have HBw := hide (HB.out.trans (HBr.out.mono HB.out.size))
      have hsz := Hws.out
      have HOw : Hid (∃ v, v = u5 ∧ wr.ownsRow w.heap.size 3 1 v (n.net.hearers i).length (natsL (n.net.hearers i))) := hide (by
        refine ⟨_, rfl, HO.out.1, ?_⟩
        rcases HO.out.2 with h | ⟨g, cap, cur, h1, h2, h3⟩
        · exact Or.inl h
        · exact Or.inr ⟨g, cap, cur, h1, by omega, h3⟩)
      clear b2 HO hsz
      go_wp2
      go_ret
      obtain ⟨v, rfl, hv⟩ := HOw.out
      exact ⟨⟨_, rfl, hv⟩, HBw.out⟩

end Go.Proofs.YtjhkadffaephmabGreat

/-
  state.route, state.Look, net.round, net.Round, net.Begin.
-/
namespace Go.Proofs.YtjhkadffaephmabGreat
set_option maxRecDepth 100000
open Go.RowKit

/-- What stands in a table. -/
theorem Mat.In.at {m : Mat} {n : Nat} {w : World} (h : m.In n w) {r c : Nat} (hr : r < m.t.len) (hc : c < m.t.L r) :
    m.ga = some ⟨m.gb, m.go, none⟩ ∧ w.cell? ⟨m.gb, m.go + r, none⟩ = some (.slice (some ⟨m.RB r, m.RO r, none⟩) (m.t.L r) (m.C r)) ∧ w.cell? ⟨m.RB r, m.RO r + c, none⟩ = some (.int .i64 (m.t.Z r c)) := by
  refine ⟨h.ga (by omega), ?_, h.cell r hr c hc⟩
  rw [← (h.addr r hr (by omega)).1]
  exact h.row r hr

set_option maxHeartbeats 4000000 in
theorem route_any (fid : Nat) (cap : Array Value) (n : NetM) (i j : Nat) (has : Nat → Int) (w : World) (h : n.In w.heap.size w) (hck : n.net.check = 0) (hr : n.net.Routes has)
    (hcf : ∀ (args : Array Value) (W : World), (callFunc fid args).run Tryz.prog W = .ok (.enter fid args) W)
    (hat : ∀ (v : Nat) (W : World), v < n.net.N → Below w.heap.size w W → Calls Tryz.prog fid (#[.int .i64 v, .int .i64 j] ++ cap) W fun e w' => e = .returned (.int .i64 (has v)) ∧ ∃ m, w' = W.drewN m) :
    Calls Tryz.prog 100 #[n.val, .int .i64 i, .int .i64 j, .func (.func fid) #[] cap] w fun e w' => e = .returned (.int .i64 (n.net.route i j has)) ∧ Below w.heap.size w w' := by
  have hlen := h.len
  unfold maxLen at hlen
  have g := Net.good_of_check hck
  have lo := g.law.good.lo
  have hi24 := g.law.good.hi
  have hB0 : Below w.heap.size w (w.alloc (.cells n.cells 27)) := (Below.refl _ w).alloc (Nat.le_refl _) _
  have HO := hide (own_any n i j (w.alloc (.cells n.cells 27)) lo hi24)
  have HA := hide hat
  have HL := hide (n.net.look_spec g hr i j)
  have Hbeg : Hid (n.net.begin i j = n.net.look i j has 0) := hide rfl
  have HEnd := hide (n.net.look_route hck hr i j)
  have G := hide g
  have H := hide h
  have HR := hide hr
  clear hat h g hr hck
  simp only [NetM.val, NetM.cells, Mat.val] at *
  go_enter Tryz.func100, Tryz.ntmps100
  go_wp2_with fail
  go_at_call 49
  refine HO.out.mono ?_
  rintro e w1 ⟨rfl, hb1⟩
  have hB1 := hB0.trans (hb1.mono hB0.size)
  have b1 := (Blk.new w n.cells 27).below hb1 (by simp)
  have hs1 : w.heap.size + 1 ≤ w1.heap.size := by have := hb1.size; simpa using this
  have x4 := b1.cell 4
  simp [NetM.cells] at x4
  clear HO hb1 hB0
  go_wp2_with fail
  go_loopw [9, 11, 12, 20] (fun b _ _ q wr => ∃ k : Nat, k ≤ n.ln ∧ q = .int .i64 k ∧ b = .int .i64 (n.net.look i j has k) ∧ Hid (Below w1.heap.size w1 wr)) (fun _ _ _ q _ => n.ln - (intOf q).toNat)
  case atStart => exact ⟨0, Nat.zero_le _, rfl, by rw [Hbeg.out], hide (Below.refl _ _)⟩
  case round =>
    obtain ⟨k, hk, rfl, rfl, HB⟩ := hrel
    have hBw : Below w.heap.size w wr := hB1.trans (HB.out.mono (by omega))
    by_cases hlt : k < n.ln
    · have hI := H.out.below hBw (Nat.le_refl _)
      have hla := H.out.la (by omega)
      have gl := G.out.link k hlt
      obtain ⟨kf, hkf⟩ : ∃ kf : Nat, n.F k = kf := ⟨(n.F k).toNat, by have := gl.1; have e : n.net.F k = n.F k := rfl; omega⟩
      obtain ⟨kt, hkt⟩ : ∃ kt : Nat, n.T k = kt := ⟨(n.T k).toNat, by have := gl.2.2.1; have e : n.net.T k = n.T k := rfl; omega⟩
      obtain ⟨ke, hke⟩ : ∃ ke : Nat, n.E k = ke := ⟨(n.E k).toNat, by have := gl.2.2.2.2.1; have e : n.net.E k = n.E k := rfl; omega⟩
      have c0 := hI.f k hlt
      have c1 := hI.t k hlt
      have c2 := hI.e k hlt
      rw [hkf] at c0
      rw [hkt] at c1
      rw [hke] at c2
      have bN := b1.below HB.out b1.lt
      have hBa : ∀ o, Below w1.heap.size w1 (wr.alloc o) := fun o => HB.out.alloc HB.out.size o
      have hBwa : ∀ o, Below w.heap.size w (wr.alloc o) := fun o => hBw.alloc hBw.size o
      have HBa := hide (hBa (.cells #[.int .i64 kf, .int .i64 kt, .int .i64 ke] 65))
      have HBwa := hide (hBwa (.cells #[.int .i64 kf, .int .i64 kt, .int .i64 ke] 65))
      clear hBa hBwa hBw
      by_cases hfi : kf = i
      · have hfi' : ((kf : Int) == (i : Int)) = true := by simp [hfi]
        have n1 : ∀ o q, ((wr.alloc o).drewN q).cell? ⟨w.heap.size, 1, none⟩ = some (.slice n.a.B.ga n.a.B.t.len n.a.B.cap) := fun o q => (bN.alloc o).cell 1
        have n2 : ∀ o q, ((wr.alloc o).drewN q).cell? ⟨w.heap.size, 2, none⟩ = some (.slice n.a.E.ga n.a.E.t.len n.a.E.cap) := fun o q => (bN.alloc o).cell 2
        have ht : kt < n.net.N := by have := gl.2.2.2.1; have e : n.net.T k = n.T k := rfl; have e2 : n.net.N = n.net.nodes.toNat := rfl; omega
        obtain ⟨hv, hhv⟩ : ∃ hv : Nat, has kt = hv := ⟨(has kt).toNat, by have := (HR.out kt ht).1; omega⟩
        have hke8 : ke < n.a.E.t.len := by have := gl.2.2.2.2.2; have e : n.net.E k = n.E k := rfl; have e2 : n.net.a.E.len = n.a.E.t.len := rfl; omega
        have hEL : hv < n.a.E.t.L ke := by
          have e1 := G.out.law.good.ew ke hke8
          have e2 := (HR.out kt ht).2
          have e3 : n.net.a.E.L ke = n.a.E.t.L ke := rfl
          omega
        have hEz := G.out.law.good.ez ke hke8 hv hEL
        obtain ⟨mv, hmv⟩ : ∃ mv : Nat, n.a.E.t.Z ke hv = mv := ⟨(n.a.E.t.Z ke hv).toNat, by have := hEz.1; have e3 : n.net.a.E.Z ke hv = n.a.E.t.Z ke hv := rfl; omega⟩
        have hL := (HL.out k hk).1
        obtain ⟨bv, hbv⟩ : ∃ bv : Nat, n.net.look i j has k = bv := ⟨(n.net.look i j has k).toNat, by omega⟩
        have hsz : n.net.a.size = n.a.size := rfl
        have hBl : bv < n.a.B.t.len := by
          have e1 := G.out.law.good.bl
          have e3 : n.net.a.B.len = n.a.B.t.len := rfl
          omega
        have hBL : mv < n.a.B.t.L bv := by
          have e1 := G.out.law.good.bw bv hBl
          have e3 : n.net.a.B.L bv = n.a.B.t.L bv := rfl
          have e4 : n.net.a.E.Z ke hv = n.a.E.t.Z ke hv := rfl
          omega
        have hnext : n.net.look i j has (k + 1) = n.a.B.t.Z bv mv := by
          have hF : n.net.F k = (i : Int) := by show n.F k = _; rw [hkf, hfi]
          rw [Net.look, if_pos hF, hbv]
          show n.a.B.t.get bv (n.a.E.t.get (n.E k) (has (n.T k).toNat)) = _
          rw [hke, hkt, Int.toNat_natCast, hhv]
          simp only [Tab.get, Int.toNat_natCast, hmv]
        have hIa := hI.below (Below.refl w.heap.size wr |>.alloc (by have := HB.out.size; omega) (.cells #[.int .i64 kf, .int .i64 kt, .int .i64 ke] 65)) (Nat.le_refl _)
        obtain ⟨a1, a2, a3⟩ := hIa.a.E.at hke8 hEL
        obtain ⟨d1, d2, d3⟩ := hIa.a.B.at hBl hBL
        rw [hmv] at a3
        have HC := hide (fun q => HA.out kt (World.drewN (wr.alloc (.cells #[.int .i64 kf, .int .i64 kt, .int .i64 ke] 65)) q) ht (below_drewN HBwa.out q))
        rw [hhv] at HC
        have hei : (ke : Int) < (n.a.E.t.len : Int) := by omega
        have hvi : (hv : Int) < (n.a.E.t.L ke : Int) := by omega
        have hbi : (bv : Int) < (n.a.B.t.len : Int) := by omega
        have hmi : (mv : Int) < (n.a.B.t.L bv : Int) := by omega
        rw [hbv]
        have Hn := hide hnext
        clear hnext hhv hmv hL hEz hbv hkf hke hkt gl hI hIa hfi
        go_wp2_with fail
        go_quiet ((refine Calls.quiet_of (HC.out _)))
        go_wp2
        go_roundw
        case rel =>
          first
          | exact ⟨k + 1, by omega, by go_num, by rw [Hn.out], hide (below_drewN HBa.out _)⟩
          | ((try rw [← hla]); (try rw [← a1]); (try rw [← d1]); (repeat apply Exists.intro); refine ⟨?_, rfl⟩; exact ⟨k + 1, by omega, by go_num, by rw [Hn.out], hide (below_drewN HBa.out _)⟩)
        case measure => simp [intOf]; omega
      · have hfi' : ((kf : Int) == (i : Int)) = false := by simp; omega
        have hnext : n.net.look i j has (k + 1) = n.net.look i j has k := by
          rw [Net.look, if_neg]
          show ¬ n.F k = _
          omega
        have Hn := hide hnext
        clear hnext hfi
        go_wp2
        go_roundw
        case rel =>
          first
          | exact ⟨k + 1, by omega, by go_num, by rw [Hn.out], HBa⟩
          | (rw [← hla]; (repeat apply Exists.intro); refine ⟨?_, rfl⟩; exact ⟨k + 1, by omega, by go_num, by rw [Hn.out], HBa⟩)
        case measure => simp [intOf]; omega
    · have hkn : k = n.ln := by omega
      subst hkn
      have HBw := hide hBw
      have hE := HEnd.out
      clear hBw
      go_wp2
      go_ret
      exact ⟨by rw [← hE]; rfl, HBw.out⟩

end Go.Proofs.YtjhkadffaephmabGreat

/-
  Tables of which row by row is made, each in a block of its own that another call made.
-/
namespace Go.Proofs.YtjhkadffaephmabGreat
set_option maxRecDepth 100000
open Go.RowKit

/-- The cells of a table of which i rows are made. -/
def outG (g c : Nat → Nat) (p n i : Nat) : Array Value := ((List.range n).map fun r => if r < i then Value.slice (some ⟨g r, 0, none⟩) p (c r) else .slice none 0 0).toArray
theorem outG_get {g c : Nat → Nat} {p n i r : Nat} (h : r < n) : (outG g c p n i)[r]? = some (if r < i then Value.slice (some ⟨g r, 0, none⟩) p (c r) else .slice none 0 0) := by
  simp [outG, h]
/-- f, but v at i. -/
def updN (f : Nat → Nat) (i v : Nat) : Nat → Nat := fun r => if r = i then v else f r
theorem updN_same (f : Nat → Nat) (i v : Nat) : updN f i v i = v := by simp [updN]
theorem updN_other (f : Nat → Nat) {i r : Nat} (v : Nat) (h : r ≠ i) : updN f i v r = f r := by simp [updN, h]
theorem outG_set {g c : Nat → Nat} {p n i a b : Nat} : (outG g c p n i).setIfInBounds i (.slice (some ⟨a, 0, none⟩) p b) = outG (updN g i a) (updN c i b) p n (i + 1) := by
  apply Array.ext
  · simp [outG]
  · intro j h1 h2
    have hn : j < n := by simpa [outG] using h2
    by_cases e : i = j
    · subst e
      simp [outG, updN]
    · rw [Array.getElem_setIfInBounds_ne (by simpa [outG] using hn) e]
      simp only [outG, List.getElem_toArray, List.getElem_map, List.getElem_range, updN_other _ _ (Ne.symm e)]
      by_cases h : j < i
      · rw [if_pos h, if_pos (by omega)]
      · rw [if_neg h, if_neg (by omega)]
theorem outG_zero (g c : Nat → Nat) (p n : Nat) : madeCells #[.slice none 0 0] n = outG g c p n 0 := by
  apply Array.ext'
  rw [toList_madeCells_one]
  simp [outG, List.map_const']

/-- i rows are made. -/
structure MadeI (lo ob : Nat) (g c : Nat → Nat) (p n : Nat) (Z : Nat → Nat → Int) (i : Nat) (W : World) : Prop where
  out : Blk W ob (outG g c p n i) 32
  base : lo ≤ ob
  rows : ∀ r, r < i → lo ≤ g r ∧ g r < W.heap.size ∧ g r ≠ ob ∧ ∀ j, j < p → W.cell? ⟨g r, j, none⟩ = some (.int .i64 (Z r j))

theorem MadeI.start (w : World) (lo p n : Nat) (Z : Nat → Nat → Int) (h : lo ≤ w.heap.size) : MadeI lo w.heap.size (fun _ => 0) (fun _ => 0) p n Z 0 (w.alloc (.cells (madeCells #[.slice none 0 0] n) 32)) where
  out := by rw [outG_zero (fun _ => 0) (fun _ => 0) p n]; exact Blk.new w _ _
  base := h
  rows := fun r hr => absurd hr (Nat.not_lt_zero _)

/-- A state of n rows of n each, made anew from lo on. -/
def Fresh (n lo : Nat) (Z : Nat → Nat → Int) (m : Mat) (W : World) : Prop := m.t = ⟨n, fun _ => n, Z⟩ ∧ m.In W.heap.size W ∧ m.From lo

theorem MadeI.mat {lo ob : Nat} {g c : Nat → Nat} {p n : Nat} {Z : Nat → Nat → Int} {W : World} (h : MadeI lo ob g c p n Z n W) (hn : n ≤ 100) (hp : p ≤ 100) :
    ∃ m : Mat, Value.slice (some ⟨ob, 0, none⟩) n n = m.val ∧ m.t = ⟨n, fun _ => p, Z⟩ ∧ m.In W.heap.size W ∧ m.From lo := by
  refine ⟨⟨some ⟨ob, 0, none⟩, ob, 0, n, fun r => some ⟨g r, 0, none⟩, c, g, fun _ => 0, ⟨n, fun _ => p, Z⟩⟩, rfl, rfl, ⟨fun _ => rfl, fun _ => h.out.lt, ?_, ?_, ?_, ?_, ?_⟩, ⟨fun _ => h.base, ?_⟩⟩
  · intro r hr
    have hr' : r < n := hr
    show W.cell? ⟨ob, 0 + r, none⟩ = _
    rw [h.out.cell (0 + r), Nat.zero_add, outG_get hr', if_pos hr']
  · exact fun r hr _ => ⟨rfl, (h.rows r hr).2.1⟩
  · intro r hr j hj
    have hj' : j < p := hj
    show W.cell? ⟨g r, 0 + j, none⟩ = _
    rw [Nat.zero_add]
    exact (h.rows r hr).2.2.2 j hj'
  · show n ≤ maxLen; unfold maxLen; omega
  · intro r _; show p ≤ maxLen; unfold maxLen; omega
  · exact fun r hr _ => (h.rows r hr).1

set_option maxHeartbeats 4000000 in
theorem look_any (fid : Nat) (cap : Array Value) (n : NetM) (i : Nat) (has : Nat → Nat → Int) (w : World) (h : n.In w.heap.size w) (hck : n.net.check = 0) (hr : ∀ j, j < n.net.N → n.net.Routes (has j))
    (hcf : ∀ (args : Array Value) (W : World), (callFunc fid args).run Tryz.prog W = .ok (.enter fid args) W)
    (hat : ∀ (v j : Nat) (W : World), v < n.net.N → j < n.net.N → Below w.heap.size w W → Calls Tryz.prog fid (#[.int .i64 v, .int .i64 j] ++ cap) W fun e w' => e = .returned (.int .i64 (has j v)) ∧ ∃ m, w' = W.drewN m) :
    Calls Tryz.prog 89 #[n.val, .int .i64 i, .func (.func fid) #[] cap] w fun e w' => e = .returned (.slice (some ⟨w.heap.size + 1, 0, none⟩) n.net.N n.net.N) ∧ Below w.heap.size w w' ∧ w.heap.size + 1 < w'.heap.size ∧ ∀ j, j < n.net.N → w'.cell? ⟨w.heap.size + 1, j, none⟩ = some (.int .i64 (n.net.route i j (has j))) := by
  have g := Net.good_of_check hck
  have lo := g.lo
  have hi6 := g.hi
  obtain ⟨N, hN⟩ : ∃ N : Nat, n.nodes = N := ⟨n.nodes.toNat, by have : n.net.nodes = n.nodes := rfl; omega⟩
  have hNN : n.net.N = N := by show n.nodes.toNat = N; omega
  have hN6 : N ≤ 6 := by have : n.net.nodes = n.nodes := rfl; omega
  rw [hNN] at hr hat ⊢
  obtain ⟨i1, hi1, hy0, hy1, hy2⟩ := info_parts Tryz.infoInt
  have hmkB : ∀ u : World, (Instr.makeSlice 32 (.int .i64 (N : Int)) (.int .i64 (N : Int))).run Tryz.prog u = .ok (.slice (some ⟨u.heap.size, 0, none⟩) N N) (u.alloc (.cells (madeCells #[.int .i64 0] N) 3)) := fun u => by
    have h := run_make (P := Tryz.prog) u 32 3 i1 (.int .i64 0) Tryz.underlying32 hi1 hy0 .i64 .i64 (N : Int) (N : Int) (by omega) (Int.le_refl _) (by rw [hy2]; omega) (by omega)
    simpa [hy1, Value.cells] using h
  have hB0 : Below w.heap.size w (w.alloc (.cells n.cells 27)) := (Below.refl _ w).alloc (Nat.le_refl _) _
  have b0 := Blk.new w n.cells 27
  have HA := hide hat
  have H := hide h
  have HR := hide hr
  have HK := hide hck
  have HCF := hide hcf
  clear hat h g hr hck lo hi6 hcf
  have hcells : n.cells = #[.int .i64 n.a.size, .slice n.a.B.ga n.a.B.t.len n.a.B.cap, .slice n.a.E.ga n.a.E.t.len n.a.E.cap, .int .i64 N, .slice n.la n.ln n.lc] := by simp only [NetM.cells, Mat.val, hN]
  simp only [NetM.val, hcells]
  have Hcells := hide hcells
  clear hN hcells hB0 b0
  go_enter Tryz.func89, Tryz.ntmps89
  go_wp2_with fail
  go_loopw [8, 14] (fun _ q wr => ∃ k : Nat, k ≤ N ∧ q = .int .i64 k ∧ Hid (Below (w.heap.size + 1) (w.alloc (.cells n.cells 27)) wr) ∧ Hid (Blk wr (w.heap.size + 1) (rowArr (fun j => n.net.route i j (has j)) N k) 3)) (fun _ q _ => N - (intOf q).toNat)
  case atStart => 
    refine ⟨0, Nat.zero_le _, rfl, hide ?_, hide ?_⟩
    · rw [Hcells.out]
      exact (Below.refl _ _).alloc (by simp) _
    · rw [rowArr_zero (fun j => n.net.route i j (has j)) N]
      exact Blk.new' (by simp)
  case round =>
    obtain ⟨k, hk, rfl, HB, HJ⟩ := hrel
    have hBw : Below w.heap.size w wr := ((Below.refl _ w).alloc (Nat.le_refl _) _).trans (HB.out.mono (by omega))
    by_cases hlt : k < N
    · have bN := (Blk.new w n.cells 27).below HB.out (by omega)
      have x0 := bN.cell 0
      have x1 := bN.cell 1
      have x2 := bN.cell 2
      have x3 := bN.cell 3
      have x4 := bN.cell 4
      simp [Hcells.out] at x0 x1 x2 x3 x4
      have HC := hide (route_any fid cap n i k (has k) wr (H.out.grown hBw) HK.out (by intro v hv; exact HR.out k hlt v hv) HCF.out (fun v W hv hb => HA.out v k W (by rw [hNN] at hv; exact hv) hlt (hBw.trans (hb.mono hBw.size))))
      simp only [NetM.val, Hcells.out] at HC
      go_wp2_with fail
      go_at_call 100
      refine HC.out.mono ?_
      rintro e w2 ⟨rfl, hb2⟩
      have hJ2 := HJ.out.below hb2 HJ.out.lt
      have r1 := hJ2.cell k
      rw [rowArr_get hlt, if_neg (Nat.lt_irrefl _)] at r1
      have rf := hJ2.frozen k
      have hki : (k : Int) < (N : Int) := by omega
      have hJ3 := hJ2.set k (.int .i64 (n.net.route i k (has k)))
      rw [rowArr_set (Z := fun j => n.net.route i j (has j))] at hJ3
      have HJ3 := hide hJ3
      have HB3 := hide ((HB.out.trans (hb2.mono (by have := HB.out.size; simp at this; omega))).setCell (p := ⟨w.heap.size + 1, k, none⟩) (Nat.le_refl _) (.int .i64 (n.net.route i k (has k))))
      clear hJ2 hJ3 HJ HB hb2 x0 x1 x2 x3 x4 bN
      go_wp2
      go_roundw
      case rel =>
        first
        | exact ⟨k + 1, by omega, by go_num, HB3, HJ3⟩
        | ((repeat apply Exists.intro); refine ⟨?_, rfl⟩; exact ⟨k + 1, by omega, by go_num, HB3, HJ3⟩)
      case measure => simp [intOf]; omega
    · have hkn : k = N := by omega
      subst hkn
      have HBw := hide hBw
      clear hBw
      go_wp2
      go_ret
      refine ⟨rfl, HBw.out, HJ.out.lt, fun j hj => ?_⟩
      rw [HJ.out.cell j, rowArr_get hj, if_pos hj]

end Go.Proofs.YtjhkadffaephmabGreat
