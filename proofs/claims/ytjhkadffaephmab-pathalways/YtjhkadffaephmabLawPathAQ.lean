/-
  signpostlaw.PathAlways.
-/
import Derived.Test.YtjhkadffaephmabBundleFD
import Derived.Test.YtjhkadffaephmabBundleFE
import Derived.Test.YtjhkadffaephmabBundleEA
import Derived.Test.YtjhkadffaephmabBundleDH
namespace Go.Proofs.Ytjhkadffaephmab
set_option maxRecDepth 100000
open Go.RowKit

theorem Net.psettleE_fit {n : Net} {t : RTab} (h : n.psettleE t 500 = 0) : n.pfit t = 0 := (Net.psettleE_zero h).1

/-- What a path of a settled square weighs. -/
theorem Net.PCon.weighs {n : Net} {i j : Nat} {r : RtM} (hc : n.check = 0) (h : n.PCon r.rt i j) (hl : r.l ≠ 0) : n.weighErr r.l r.f = 0 ∧ n.weighVal r.l r.f = r.w := by
  have hp : r.rt.p = listOf r.l r.f := rfl
  have hv : r.rt.w ≠ n.a.size - 1 := fun e => by
    have := h.at_.right.inv e
    rw [hp] at this
    have h2 := listOf_length r.l r.f
    rw [this] at h2
    exact hl h2.symm
  have hw : n.weigh (listOf r.l r.f) = some r.w := h.con.resolve_left hv
  have hr : rowIn r.l r.f n.nodes = true := rowIn_iff.2 (fun k hk => h.at_.right.node _ (by rw [hp]; exact listOf_mem.2 ⟨k, hk, rfl⟩))
  have he : n.weighErr r.l r.f = 0 := by
    show (if n.check ≠ 0 then n.check else if r.l = 0 then 1 else if rowIn r.l r.f n.nodes = false then 5 else if n.weigh (listOf r.l r.f) = none then 5 else 0) = 0
    rw [if_neg (by simp [hc]), if_neg hl, if_neg (by simp [hr]), if_neg (by simp [hw])]
  refine ⟨he, ?_⟩
  show (if n.weighErr r.l r.f = 0 then (n.weigh (listOf r.l r.f)).getD 0 else 0) = _
  rw [if_pos he, hw]
  rfl

structure PAG (w : World) (n : NetM) (p q : RMat) (N : Nat) (Zp Zq : Nat → Nat → Rt) (e f : Int) (W : World) : Prop where
  below : Below w.heap.size w W
  blk : Blk W w.heap.size n.cells 41
  p : RtAns N Zp e p W
  q : RtAns N Zq f q W
theorem PAG.keep {w : World} {n : NetM} {p q : RMat} {N : Nat} {Zp Zq : Nat → Nat → Rt} {e f : Int} {W W' : World} (h : PAG w n p q N Zp Zq e f W) (hb : Below W.heap.size W W') : PAG w n p q N Zp Zq e f W' :=
  ⟨h.below.trans (hb.mono h.below.size), h.blk.below hb h.blk.lt, h.p.grown hb, h.q.grown hb⟩

set_option maxHeartbeats 8000000 in
theorem pathAlways_any (n : NetM) (x y : RMat) (w : World) (h : n.In w.heap.size w) (hx : x.In w.heap.size w) (_hqx : x.Caps) (hy : y.In w.heap.size w) (_hqy : y.Caps) :
    Calls Try.prog 9 #[n.val, x.val, y.val] w fun e w' => e = .returned (.bool true) ∧ Below w.heap.size w w' := by
  obtain ⟨W1, hW1⟩ : ∃ W1, W1 = w.alloc (.cells n.cells 41) := ⟨_, rfl⟩
  have hB1 : Below w.heap.size w W1 := by rw [hW1]; exact (Below.refl _ w).alloc (Nat.le_refl _) _
  have b1 : Blk W1 w.heap.size n.cells 41 := by rw [hW1]; exact Blk.new w _ _
  have HSx := hide (fun W (hb : Below w.heap.size w W) => pathSettle_any n x 500 W (h.grown hb) (hx.grown hb))
  have HSy := hide (fun W (hb : Below w.heap.size w W) => pathSettle_any n y 500 W (h.grown hb) (hy.grown hb))
  have HWe := hide (fun (r : RtM) W (hb : Below w.heap.size w W) (hr : r.In W.heap.size W) => tableWeigh_any n r.pa r.l r.q r.b r.o r.f W (h.grown hb) hr.ints hr.blk)
  have Hsx : Hid (n.net.psettleE x.t 500 = 0 → n.net.check = 0 ∧ n.net.PIs x.t) := hide (fun e => Net.pis_of_fit (Net.psettleE_fit e))
  have Hsy : Hid (n.net.psettleE y.t 500 = 0 → n.net.check = 0 ∧ n.net.PIs y.t) := hide (fun e => Net.pis_of_fit (Net.psettleE_fit e))
  generalize n.net.psettleE x.t 500 = ex at *
  generalize n.net.psettleE y.t 500 = ey at *
  have e500 : ((500 : Int)).toNat = 500 := rfl
  rw [e500] at HSx HSy
  have HB1 := hide hB1
  have Hb1 := hide b1
  have HW1 := hide hW1
  simp only [NetM.val, NetM.cells, Mat.val, RMat.val] at HSx HSy HWe HW1 ⊢
  clear h hx hy hB1 b1 hW1 e500
  go_enter Try.func9, Try.ntmps9
  go_wp2_with fail
  rw [← HW1.out]
  clear HW1
  go_at_call 39
  refine (pathBegun_any _).mono ?_
  rintro e w2 ⟨rfl, hb2⟩
  have HB2 := hide (HB1.out.trans (hb2.mono HB1.out.size))
  have Hb2 := hide (Hb1.out.below hb2 Hb1.out.lt)
  clear hb2 HB1 Hb1
  go_wp2_with fail
  go_at_call 48
  refine (tableBegun_any _).mono ?_
  rintro e w3 ⟨rfl, hb3⟩
  have HB3 := hide (HB2.out.trans (hb3.mono HB2.out.size))
  have Hb3 := hide (Hb2.out.below hb3 Hb2.out.lt)
  have HS1 := hide (HSx.out w3 HB3.out)
  have x0 := Hb3.out.cell 0
  have x1 := Hb3.out.cell 1
  have x2 := Hb3.out.cell 2
  have x3 := Hb3.out.cell 3
  have x4 := Hb3.out.cell 4
  simp [NetM.cells, Mat.val] at x0 x1 x2 x3 x4
  clear hb3 HB2 Hb2 HSx
  go_wp2_with fail
  go_at_call 42
  refine HS1.out.mono ?_
  rintro e w4 ⟨⟨p, kp, rfl, hp, hkp⟩, hb4⟩
  have HB4 := hide (HB3.out.trans (hb4.mono HB3.out.size))
  have Hb4 := hide (Hb3.out.below hb4 Hb3.out.lt)
  have Hp4 := hide hp
  have Hkp := hide hkp
  have HS2 := hide (HSy.out w4 HB4.out)
  clear hb4 HB3 Hb3 HS1 hp hkp HSy x0 x1 x2 x3 x4
  have x0 := Hb4.out.cell 0
  have x1 := Hb4.out.cell 1
  have x2 := Hb4.out.cell 2
  have x3 := Hb4.out.cell 3
  have x4 := Hb4.out.cell 4
  simp [NetM.cells, Mat.val] at x0 x1 x2 x3 x4
  go_wp2_with fail
  go_at_call 42
  refine HS2.out.mono ?_
  rintro e w5 ⟨⟨q, kq, rfl, hq, hkq⟩, hb5⟩
  have HG5 : Hid (PAG w n p q n.net.N (n.net.psettle 500 x.t.Z).1 (n.net.psettle 500 y.t.Z).1 ex ey w5) := hide ⟨HB4.out.trans (hb5.mono HB4.out.size), Hb4.out.below hb5 Hb4.out.lt, Hp4.out.grown hb5, hq⟩
  have Hkq := hide hkq
  clear hb5 HB4 Hb4 HS2 hq hkq Hp4 x0 x1 x2 x3 x4
  by_cases hex : ex = 0
  rotate_left
  · have hex' : (ex != 0) = true := by simp [hex]
    have HBf := hide HG5.out.below
    clear hex HG5
    go_wp2
    go_ret
    exact ⟨rfl, HBf.out⟩
  subst hex
  by_cases hey : ey = 0
  rotate_left
  · have hey' : (ey != 0) = true := by simp [hey]
    have HBf := hide HG5.out.below
    clear hey HG5
    go_wp2
    go_ret
    exact ⟨rfl, HBf.out⟩
  subst hey
  obtain ⟨hc, hix⟩ := Hsx.out (by trivial)
  obtain ⟨_, hiy⟩ := Hsy.out (by trivial)
  have g := Net.good_of_check hc
  have lo := g.lo
  have hi6 := g.hi
  obtain ⟨N, hN⟩ : ∃ N : Nat, n.nodes = N := ⟨n.nodes.toNat, by have : n.net.nodes = n.nodes := rfl; omega⟩
  have hNN : n.net.N = N := by show n.nodes.toNat = N; omega
  obtain ⟨hlx, hcx, _⟩ := n.net.psettle_always g hix.state
  obtain ⟨hly, _, _⟩ := n.net.psettle_always g hiy.state
  have hone := n.net.psettle_one g hix.state hiy.state
  have hkp : kp = (n.net.psettle 500 x.t.Z).2 := by rw [Hkp.out, if_pos rfl]
  have hkq : kq = (n.net.psettle 500 y.t.Z).2 := by rw [Hkq.out, if_pos rfl]
  have k1 : ¬ ((500 : Int) ≤ (kp : Int)) := by omega
  have k2 : ¬ ((500 : Int) ≤ (kq : Int)) := by omega
  have hFp := HG5.out.p.ok rfl
  have hFq := HG5.out.q.ok rfl
  have hsm : p.t.same q.t = true := (hFp.psame hFq).trans (Net.psame_iff.2 hone)
  have hpl : p.len = N := by rw [← hNN]; exact hFp.len
  have Hpw : Hid (∀ r, r < N → p.L r = N) := hide (fun r hr => by rw [← hNN]; exact hFp.wide r (by omega))
  have Hcon : Hid (∀ i j, i < N → j < N → n.net.PCon (p.R i j).rt i j) := hide (fun i j hi hj => by rw [hFp.same i j (by omega) (by omega)]; exact hcx i j (by omega) (by omega))
  have HSm := hide (samePaths_any p q w5 hFp.mem hFq.mem)
  rw [hsm] at HSm
  have Hc := hide hc
  have hcells : n.cells = #[.int .i64 n.a.size, .slice n.a.B.ga n.a.B.t.len n.a.B.cap, .slice n.a.E.ga n.a.E.t.len n.a.E.cap, .int .i64 N, .slice n.la n.ln n.lc] := by simp only [NetM.cells, Mat.val, hN]
  have Hcells := hide hcells
  have hN1 : 0 < N := by have : n.net.nodes = n.nodes := rfl; omega
  have hN6 : N ≤ 6 := by have : n.net.nodes = n.nodes := rfl; omega
  have Hga : Hid (p.ga = some ⟨p.gb, p.go, none⟩) := hide (hFp.mem.ga (by omega))
  have Hpl := hide hpl
  simp only [RMat.val, hpl] at HSm ⊢
  rw [hN] at HWe ⊢
  clear hcells hN hNN hc hix hiy g lo hi6 hlx hcx hly hone hkp hkq hFp hFq hsm hpl Hsx Hsy Hkp Hkq
  go_wp2_with fail
  go_at_call 47
  refine HSm.out.mono ?_
  rintro e w6 ⟨rfl, hb6⟩
  have HG6 := hide (HG5.out.keep hb6)
  have x3 := HG6.out.blk.cell 3
  simp [Hcells.out] at x3
  clear hb6 HG5 HSm
  go_wp2_with fail
  clear x3
  go_loopw [13, 14, 15, 16, 17] (fun s _ _ _ _ wr => ∃ i : Nat, i ≤ N ∧ s = .int .i64 i ∧ Hid (Below w6.heap.size w6 wr)) (fun s _ _ _ _ _ => N - (intOf s).toNat)
  case atStart => exact ⟨0, Nat.zero_le _, rfl, hide (Below.refl _ _)⟩
  case round =>
    obtain ⟨i, hi, rfl, HB⟩ := hrel
    have hG := HG6.out.keep HB.out
    have x3 := hG.blk.cell 3
    simp [Hcells.out] at x3
    by_cases hil : i < N
    rotate_left
    · have hii : (N : Int) ≤ (i : Int) := by omega
      have HBf := hide hG.below
      clear hG
      go_wp2
      go_ret
      exact ⟨rfl, HBf.out⟩
    have hii : (i : Int) < (N : Int) := by omega
    obtain ⟨Wd, hWd⟩ : ∃ Wd, Wd = wr := ⟨wr, rfl⟩
    have HD2 : Hid (Below w6.heap.size w6 Wd) := by rw [hWd]; exact HB
    go_wp2_with fail
    rw [← hWd]
    clear hWd HB hG x3
    go_loopw [14, 15, 16, 17] (fun s _ _ _ wr => ∃ j : Nat, j ≤ N ∧ s = .int .i64 j ∧ Hid (Below w6.heap.size w6 wr)) (fun s _ _ _ _ => N - (intOf s).toNat)
    case atStart => exact ⟨0, Nat.zero_le _, rfl, HD2⟩
    case round =>
      obtain ⟨j, hj, rfl, HB⟩ := hrel
      clear HD2
      have hG := HG6.out.keep HB.out
      have x3 := hG.blk.cell 3
      simp [Hcells.out] at x3
      by_cases hjl : j < N
      rotate_left
      · have hji : (N : Int) ≤ (j : Int) := by omega
        clear hG
        go_wp2
        go_roundw
        case rel =>
          first
          | exact ⟨i + 1, by omega, by go_num, HB⟩
          | ((repeat apply Exists.intro); refine ⟨?_, rfl⟩; exact ⟨i + 1, by omega, by go_num, HB⟩)
        case measure => simp [intOf]; omega
      have hji : (j : Int) < (N : Int) := by omega
      have hLi := Hpw.out i hil
      obtain ⟨a0, a1, a2, a3⟩ := hG.p.mem.at (r := i) (c := j) (by rw [Hpl.out]; exact hil) (by rw [hLi]; exact hjl)
      rw [hLi] at a1
      have hBa : Below w6.heap.size w6 (wr.alloc (.cells (p.R i j).cells 71)) := HB.out.alloc HB.out.size _
      have br := Blk.new wr (p.R i j).cells 71
      have hGa := HG6.out.keep hBa
      have hIr := hGa.p.mem.rt i (by rw [Hpl.out]; exact hil) j (by rw [hLi]; exact hjl)
      have Hcn := hide (Hcon.out i j hil hjl)
      have Hlr := hide hIr.ints.len
      have hrl := hIr.ints.len
      unfold maxLen at hrl
      have HW2 := hide (HWe.out (p.R i j) _ hGa.below hIr)
      have z0 := hGa.blk.cell 0
      have z1 := hGa.blk.cell 1
      have z2 := hGa.blk.cell 2
      have z3 := hGa.blk.cell 3
      have z4 := hGa.blk.cell 4
      have y0 := br.cell 0
      have y1 := br.cell 1
      simp [Hcells.out] at z0 z1 z2 z3 z4
      simp [RtM.cells] at y0 y1
      have HBa := hide hBa
      have Hbr := hide br
      simp only [RtM.cells] at HW2 HBa Hbr z0 z1 z2 z3 z4 y0 y1
      generalize p.R i j = r at *
      have Ha0 := hide a0
      clear hG hGa hIr hBa br hLi
      rw [a0]
      clear a0
      by_cases hl0 : r.l = 0
      · have hl0' : ((r.l : Int) == 0) = true := by simp [hl0]
        clear HW2 hl0 Hcn z0 z1 z2 z3 z4
        go_wp2
        go_roundw
        case rel =>
          first
          | exact ⟨j + 1, by omega, by go_num, HBa⟩
          | ((try rw [← Ha0.out]); (repeat apply Exists.intro); refine ⟨?_, rfl⟩; exact ⟨j + 1, by omega, by go_num, HBa⟩)
        case measure => simp [intOf]; omega
      · have hl0' : ((r.l : Int) == 0) = false := by simp; omega
        obtain ⟨q1, q2⟩ := Hcn.out.weighs Hc.out hl0
        rw [q1, q2] at HW2
        clear hl0 Hcn q1 q2
        go_wp2_with fail
        go_at_call 49
        refine HW2.out.mono ?_
        rintro e w8 ⟨rfl, hb8⟩
        have HB8 := hide (HBa.out.trans (hb8.mono HBa.out.size))
        have b8 := Hbr.out.below hb8 Hbr.out.lt
        have u0 := b8.cell 0
        simp at u0
        have hne : (r.w != r.w) = false := by simp
        clear hb8 b8 HW2 HBa Hbr y0 y1 z0 z1 z2 z3 z4 a1 a2 a3 x3
        go_wp2
        go_roundw
        case rel =>
          first
          | exact ⟨j + 1, by omega, by go_num, HB8⟩
          | ((try rw [← Ha0.out]); (repeat apply Exists.intro); refine ⟨?_, rfl⟩; exact ⟨j + 1, by omega, by go_num, HB8⟩)
        case measure => simp [intOf]; omega

end Go.Proofs.Ytjhkadffaephmab
