/-
  state.route, state.Look, net.round, net.Round, net.Begin.
-/
import Derived.Test.YtjhkadffaephmabLinks
import Derived.Test.YtjhkadffaephmabTable
namespace Go.Proofs.Ytjhkadffaephmab
set_option maxRecDepth 100000
open Go.RowKit

/-- What stands in a table. -/
theorem Mat.In.at {m : Mat} {n : Nat} {w : World} (h : m.In n w) {r c : Nat} (hr : r < m.t.len) (hc : c < m.t.L r) :
    m.ga = some ⟨m.gb, m.go, none⟩ ∧ w.cell? ⟨m.gb, m.go + r, none⟩ = some (.slice (some ⟨m.RB r, m.RO r, none⟩) (m.t.L r) (m.C r)) ∧ w.cell? ⟨m.RB r, m.RO r + c, none⟩ = some (.int .i64 (m.t.Z r c)) := by
  refine ⟨h.ga (by omega), ?_, h.cell r hr c hc⟩
  rw [← (h.addr r hr (by omega)).1]
  exact h.row r hr

set_option maxHeartbeats 4000000 in
theorem route_any (fid : Nat) (cap : Array Value) (n : NetM) (i j : Nat) (has : Nat → Int) (w : World) (h : n.In w.heap.size w) (hck : n.net.check = 0) (hr : n.net.Routes has)
    (hcf : ∀ (args : Array Value) (W : World), (callFunc fid args).run Try.prog W = .ok (.enter fid args) W)
    (hat : ∀ (v : Nat) (W : World), v < n.net.N → Below w.heap.size w W → Calls Try.prog fid (#[.int .i64 v, .int .i64 j] ++ cap) W fun e w' => e = .returned (.int .i64 (has v)) ∧ ∃ m, w' = W.drewN m) :
    Calls Try.prog 192 #[n.val, .int .i64 i, .int .i64 j, .func (.func fid) #[] cap] w fun e w' => e = .returned (.int .i64 (n.net.route i j has)) ∧ Below w.heap.size w w' := by
  have hlen := h.len
  unfold maxLen at hlen
  have g := Net.good_of_check hck
  have lo := g.law.good.lo
  have hi24 := g.law.good.hi
  have hB0 : Below w.heap.size w (w.alloc (.cells n.cells 41)) := (Below.refl _ w).alloc (Nat.le_refl _) _
  have HO := hide (own_any n i j (w.alloc (.cells n.cells 41)) lo hi24)
  have HA := hide hat
  have HL := hide (n.net.look_spec g hr i j)
  have Hbeg : Hid (n.net.begin i j = n.net.look i j has 0) := hide rfl
  have HEnd := hide (n.net.look_route hck hr i j)
  have G := hide g
  have H := hide h
  have HR := hide hr
  clear hat h g hr hck
  simp only [NetM.val, NetM.cells, Mat.val] at *
  go_enter Try.func192, Try.ntmps192
  go_wp2_with fail
  go_at_call 84
  refine HO.out.mono ?_
  rintro e w1 ⟨rfl, hb1⟩
  have hB1 := hB0.trans (hb1.mono hB0.size)
  have b1 := (Blk.new w n.cells 41).below hb1 (by simp)
  have hs1 : w.heap.size + 1 ≤ w1.heap.size := by have := hb1.size; simpa using this
  have x4 := b1.cell 4
  simp [NetM.cells] at x4
  clear HO hb1 hB0
  go_wp2_with fail
  go_loopw [9, 11, 12, 20] (fun b _ _ q wr => ∃ k : Nat, k ≤ n.ln ∧ q = .int .i64 k ∧ b = .int .i64 (n.net.look i j has k) ∧ Hid (Below w1.heap.size w1 wr)) (fun _ _ _ q _ => n.ln - (intOf q).toNat)
  case atStart => exact ⟨0, Nat.zero_le _, rfl, by rw [Hbeg.out], hide (Below.refl _ _)⟩
  case round =>
    obtain ⟨k, hk, rfl, rfl, HB⟩ := hrel
    have hBw : Below w.heap.size w wr := hB1.trans (HB.out.mono (by omega))
    by_cases hlt : k < n.ln
    · have hI := H.out.below hBw (Nat.le_refl _)
      have hla := H.out.la (by omega)
      have gl := G.out.link k hlt
      obtain ⟨kf, hkf⟩ : ∃ kf : Nat, n.F k = kf := ⟨(n.F k).toNat, by have := gl.1; have e : n.net.F k = n.F k := rfl; omega⟩
      obtain ⟨kt, hkt⟩ : ∃ kt : Nat, n.T k = kt := ⟨(n.T k).toNat, by have := gl.2.2.1; have e : n.net.T k = n.T k := rfl; omega⟩
      obtain ⟨ke, hke⟩ : ∃ ke : Nat, n.E k = ke := ⟨(n.E k).toNat, by have := gl.2.2.2.2.1; have e : n.net.E k = n.E k := rfl; omega⟩
      have c0 := hI.f k hlt
      have c1 := hI.t k hlt
      have c2 := hI.e k hlt
      rw [hkf] at c0
      rw [hkt] at c1
      rw [hke] at c2
      have bN := b1.below HB.out b1.lt
      have hBa : ∀ o, Below w1.heap.size w1 (wr.alloc o) := fun o => HB.out.alloc HB.out.size o
      have hBwa : ∀ o, Below w.heap.size w (wr.alloc o) := fun o => hBw.alloc hBw.size o
      have HBa := hide (hBa (.cells #[.int .i64 kf, .int .i64 kt, .int .i64 ke] 79))
      have HBwa := hide (hBwa (.cells #[.int .i64 kf, .int .i64 kt, .int .i64 ke] 79))
      clear hBa hBwa hBw
      by_cases hfi : kf = i
      · have hfi' : ((kf : Int) == (i : Int)) = true := by simp [hfi]
        have n1 : ∀ o q, ((wr.alloc o).drewN q).cell? ⟨w.heap.size, 1, none⟩ = some (.slice n.a.B.ga n.a.B.t.len n.a.B.cap) := fun o q => (bN.alloc o).cell 1
        have n2 : ∀ o q, ((wr.alloc o).drewN q).cell? ⟨w.heap.size, 2, none⟩ = some (.slice n.a.E.ga n.a.E.t.len n.a.E.cap) := fun o q => (bN.alloc o).cell 2
        have ht : kt < n.net.N := by have := gl.2.2.2.1; have e : n.net.T k = n.T k := rfl; have e2 : n.net.N = n.net.nodes.toNat := rfl; omega
        obtain ⟨hv, hhv⟩ : ∃ hv : Nat, has kt = hv := ⟨(has kt).toNat, by have := (HR.out kt ht).1; omega⟩
        have hke8 : ke < n.a.E.t.len := by have := gl.2.2.2.2.2; have e : n.net.E k = n.E k := rfl; have e2 : n.net.a.E.len = n.a.E.t.len := rfl; omega
        have hEL : hv < n.a.E.t.L ke := by
          have e1 := G.out.law.good.ew ke hke8
          have e2 := (HR.out kt ht).2
          have e3 : n.net.a.E.L ke = n.a.E.t.L ke := rfl
          omega
        have hEz := G.out.law.good.ez ke hke8 hv hEL
        obtain ⟨mv, hmv⟩ : ∃ mv : Nat, n.a.E.t.Z ke hv = mv := ⟨(n.a.E.t.Z ke hv).toNat, by have := hEz.1; have e3 : n.net.a.E.Z ke hv = n.a.E.t.Z ke hv := rfl; omega⟩
        have hL := (HL.out k hk).1
        obtain ⟨bv, hbv⟩ : ∃ bv : Nat, n.net.look i j has k = bv := ⟨(n.net.look i j has k).toNat, by omega⟩
        have hsz : n.net.a.size = n.a.size := rfl
        have hBl : bv < n.a.B.t.len := by
          have e1 := G.out.law.good.bl
          have e3 : n.net.a.B.len = n.a.B.t.len := rfl
          omega
        have hBL : mv < n.a.B.t.L bv := by
          have e1 := G.out.law.good.bw bv hBl
          have e3 : n.net.a.B.L bv = n.a.B.t.L bv := rfl
          have e4 : n.net.a.E.Z ke hv = n.a.E.t.Z ke hv := rfl
          omega
        have hnext : n.net.look i j has (k + 1) = n.a.B.t.Z bv mv := by
          have hF : n.net.F k = (i : Int) := by show n.F k = _; rw [hkf, hfi]
          rw [Net.look, if_pos hF, hbv]
          show n.a.B.t.get bv (n.a.E.t.get (n.E k) (has (n.T k).toNat)) = _
          rw [hke, hkt, Int.toNat_natCast, hhv]
          simp only [Tab.get, Int.toNat_natCast, hmv]
        have hIa := hI.below (Below.refl w.heap.size wr |>.alloc (by have := HB.out.size; omega) (.cells #[.int .i64 kf, .int .i64 kt, .int .i64 ke] 79)) (Nat.le_refl _)
        obtain ⟨a1, a2, a3⟩ := hIa.a.E.at hke8 hEL
        obtain ⟨d1, d2, d3⟩ := hIa.a.B.at hBl hBL
        rw [hmv] at a3
        have HC := hide (fun q => HA.out kt (World.drewN (wr.alloc (.cells #[.int .i64 kf, .int .i64 kt, .int .i64 ke] 79)) q) ht (below_drewN HBwa.out q))
        rw [hhv] at HC
        have hei : (ke : Int) < (n.a.E.t.len : Int) := by omega
        have hvi : (hv : Int) < (n.a.E.t.L ke : Int) := by omega
        have hbi : (bv : Int) < (n.a.B.t.len : Int) := by omega
        have hmi : (mv : Int) < (n.a.B.t.L bv : Int) := by omega
        rw [hbv]
        have Hn := hide hnext
        clear hnext hhv hmv hL hEz hbv hkf hke hkt gl hI hIa hfi
        go_wp2_with fail
        go_quiet ((refine Calls.quiet_of (HC.out _)))
        go_wp2
        go_roundw
        case rel =>
          first
          | exact ⟨k + 1, by omega, by go_num, by rw [Hn.out], hide (below_drewN HBa.out _)⟩
          | ((try rw [← hla]); (try rw [← a1]); (try rw [← d1]); (repeat apply Exists.intro); refine ⟨?_, rfl⟩; exact ⟨k + 1, by omega, by go_num, by rw [Hn.out], hide (below_drewN HBa.out _)⟩)
        case measure => simp [intOf]; omega
      · have hfi' : ((kf : Int) == (i : Int)) = false := by simp; omega
        have hnext : n.net.look i j has (k + 1) = n.net.look i j has k := by
          rw [Net.look, if_neg]
          show ¬ n.F k = _
          omega
        have Hn := hide hnext
        clear hnext hfi
        go_wp2
        go_roundw
        case rel =>
          first
          | exact ⟨k + 1, by omega, by go_num, by rw [Hn.out], HBa⟩
          | (rw [← hla]; (repeat apply Exists.intro); refine ⟨?_, rfl⟩; exact ⟨k + 1, by omega, by go_num, by rw [Hn.out], HBa⟩)
        case measure => simp [intOf]; omega
    · have hkn : k = n.ln := by omega
      subst hkn
      have HBw := hide hBw
      have hE := HEnd.out
      clear hBw
      go_wp2
      go_ret
      exact ⟨by rw [← hE]; rfl, HBw.out⟩

end Go.Proofs.Ytjhkadffaephmab
