/-
  choose, SamePacket, wireBegun.
-/
import Derived.Test.YtjhkadffaephmaaWireR
namespace Go.Proofs.Ytjhkadffaephmaa
set_option maxRecDepth 100000
open Go.RowKit

def chooseV (c n : Int) : Int := if c < 0 then (-(c + 1)) % n else c % n
theorem chooseV_in {c n : Int} (h : 0 < n) : 0 ≤ chooseV c n ∧ chooseV c n < n := by
  unfold chooseV
  split
  · exact ⟨Int.emod_nonneg _ (by omega), Int.emod_lt_of_pos _ h⟩
  · exact ⟨Int.emod_nonneg _ (by omega), Int.emod_lt_of_pos _ h⟩

set_option maxHeartbeats 1000000 in
theorem samePacket_yes (p q : PktM) (w : World) (hp : p.In w.heap.size w) (hq : q.In w.heap.size w) (hs : p.pkt.same q.pkt) :
    Calls Try.prog 100 #[p.val, q.val] w fun e w' => e = .returned (.bool true) ∧ Below w.heap.size w w' := by
  have b0 := (Blk.new w p.cells 79).alloc (.cells q.cells 79)
  have b1 : Blk ((w.alloc (.cells p.cells 79)).alloc (.cells q.cells 79)) (w.heap.size + 1) q.cells 79 := Blk.new' (by simp)
  have hB : Below w.heap.size w ((w.alloc (.cells p.cells 79)).alloc (.cells q.cells 79)) := ((Below.refl _ w).alloc (Nat.le_refl _) _).alloc (by simp) _
  have e1 : p.F = q.F := hs.1
  have e2 : p.T = q.T := hs.2.1
  have e3 : p.n = q.n := hs.2.2.1
  have HS := hide (sameInts_any p.ra q.ra p.n q.n p.rc q.rc p.rb p.ro q.rb q.ro p.R q.R _ (hp.grown hB).ints (hq.grown hB).ints)
  have hi : sameInts p.n q.n p.R q.R = true := sameInts_iff.2 ⟨e3, hs.2.2.2⟩
  rw [hi] at HS
  have x0 := b0.cell 0
  have x1 := b0.cell 1
  have x2 := b0.cell 2
  have y0 := b1.cell 0
  have y1 := b1.cell 1
  have y2 := b1.cell 2
  have HB := hide hB
  simp only [PktM.val, PktM.cells] at *
  simp at x0 x1 x2 y0 y1 y2
  have f1 : (p.F == q.F) = true := by simp [e1]
  have f2 : (p.T == q.T) = true := by simp [e2]
  clear hp hq hs e1 e2 e3 hi b0 b1 hB
  go_enter Try.func100, Try.ntmps100
  go_wp2_with fail
  go_at_call 89
  refine HS.out.mono ?_
  rintro e w1 ⟨rfl, m, rfl⟩
  go_wp2
  go_ret
  exact ⟨rfl, below_drewN HB.out _⟩

def begP (a : Option Addr) (b c : Nat) : PktM := ⟨1, 2, a, 1, c, b, 0, fun _ => 3⟩
theorem begP_err (a : Option Addr) (b c : Nat) : (begP a b c).pkt.err = 0 := by rfl
theorem begP_len (a : Option Addr) (b c : Nat) : (begP a b c).pkt.text.length = 7 := by rfl
theorem begP_0 (a : Option Addr) (b c : Nat) : ((begP a b c).pkt.text.getD 0 0).toNat = 83 := by rfl
theorem begP_bytes (a : Option Addr) (b c : Nat) : (begP a b c).pkt.text = (begP a b c).pkt.bytes := by rfl
theorem begP_in (w : World) (c : Nat) : (begP (some ⟨w.heap.size, 0, none⟩) w.heap.size c).In (w.alloc (.cells #[.int .i64 3] 3)).heap.size (w.alloc (.cells #[.int .i64 3] 3)) := by
  refine ⟨⟨fun _ => rfl, fun i hi => ?_, by show 1 ≤ maxLen; unfold maxLen; omega⟩, fun _ => by show w.heap.size < _; simp, by show 1 ≤ _; omega⟩
  have hi' : i < 1 := hi
  obtain rfl : i = 0 := by omega
  exact (Blk.new w #[.int .i64 3] 3).cell 0

set_option maxHeartbeats 2000000 in
theorem wireBegun_any (w : World) :
    Calls Try.prog 54 #[] w fun e w' => e = .returned (.bool true) ∧ Below w.heap.size w w' := by
  have hB0 : Below w.heap.size w (w.alloc (.cells #[.int .i64 3] 3)) := (Below.refl _ w).alloc (Nat.le_refl _) _
  have HW := hide (write_any (begP (some ⟨w.heap.size, 0, none⟩) w.heap.size 1) _ (begP_in w 1))
  have herr := begP_err (some ⟨w.heap.size, 0, none⟩) w.heap.size 1
  have hlen := begP_len (some ⟨w.heap.size, 0, none⟩) w.heap.size 1
  have h83 := begP_0 (some ⟨w.heap.size, 0, none⟩) w.heap.size 1
  have hrd := readErr_bytes herr
  rw [← begP_bytes] at hrd
  rw [herr] at HW
  have hin := begP_in w 1
  have hro : (readOf (begP (some ⟨w.heap.size, 0, none⟩) w.heap.size 1).pkt.text).same (begP (some ⟨w.heap.size, 0, none⟩) w.heap.size 1).pkt := by
    unfold readOf; rw [if_pos hrd.1]; exact hrd.2
  have hre := hrd.1
  generalize (begP (some ⟨w.heap.size, 0, none⟩) w.heap.size 1).pkt.text = tx at *
  have HR := hide (fun W => read_any tx W (by unfold maxLen; omega))
  unfold ReadAns at HR
  rw [hre] at HR
  have hsz : (ByteArray.mk tx.toArray).size = tx.length := by simp [ByteArray.size]
  have hg : ∀ h : 0 < (ByteArray.mk tx.toArray).size, ((ByteArray.mk tx.toArray)[0]'h).toNat = 83 := fun h => by rw [read_idx h]; exact h83
  simp only [PktM.val, PktM.cells, begP, txt] at HW HR
  generalize ByteArray.mk tx.toArray = s at *
  have i0 : (0 : Int) < (s.size : Int) := by omega
  have i7 : (s.size : Int) = 7 := by omega
  have Hin := hide hin
  have Hro := hide hro
  have HB0 := hide hB0
  clear hrd hre herr h83 hin hro hB0 hlen hsz
  go_enter Try.func54, Try.ntmps54
  go_wp2_with fail
  go_at_call 52
  refine HW.out.mono ?_
  rintro e w1 ⟨rfl, hb1⟩
  have HR1 := hide (HR.out w1)
  go_wp2_with fail
  go_at_call 99
  refine HR1.out.mono ?_
  rintro e w2 ⟨⟨p, rfl, hps, hpi, _⟩, hb2⟩
  have hB2 := HB0.out.trans (hb1.mono HB0.out.size) |>.trans (hb2.mono (by have := HB0.out.size; have := hb1.size; omega))
  obtain ⟨W3, hW3⟩ : ∃ W3, W3 = w2.alloc (.cells #[.int .i64 p.F, .int .i64 p.T, .slice p.ra p.n p.rc] 79) := ⟨_, rfl⟩
  have b3 : Blk W3 w2.heap.size #[.int .i64 p.F, .int .i64 p.T, .slice p.ra p.n p.rc] 79 := by rw [hW3]; exact Blk.new w2 _ _
  have hB3 : Below w2.heap.size w2 W3 := by rw [hW3]; exact (Below.refl _ _).alloc (Nat.le_refl _) _
  have hB4 : Below W3.heap.size W3 (W3.alloc (.cells #[.int .i64 3] 3)) := (Below.refl _ _).alloc (Nat.le_refl _) _
  have HS := hide (samePacket_yes p (begP (some ⟨W3.heap.size, 0, none⟩) W3.heap.size 1) (W3.alloc (.cells #[.int .i64 3] 3)) ((hpi.grown hB3).grown hB4) (begP_in W3 1) (by
    have h1 := Hro.out
    exact ⟨hps.1.trans h1.1, hps.2.1.trans h1.2.1, hps.2.2.1.trans h1.2.2.1, fun i hi => (hps.2.2.2 i hi).trans (h1.2.2.2 i (by have := hps.2.2.1; omega))⟩))
  have hs3 : W3.heap.size = w2.heap.size + 1 := by rw [hW3]; simp
  simp only [PktM.val, PktM.cells, begP] at HS
  have x0 := (b3.below hB4 b3.lt).cell 0
  have x1 := (b3.below hB4 b3.lt).cell 1
  have x2 := (b3.below hB4 b3.lt).cell 2
  have y0 := b3.cell 0
  have y1 := b3.cell 1
  have y2 := b3.cell 2
  simp at x0 x1 x2 y0 y1 y2
  have HBe := hide ((hB2.trans (hB3.mono (by have := hB2.size; omega))).trans (hB4.mono (by have := hB2.size; have := hB3.size; omega)))
  simp only [hs3] at HS
  rw [hW3] at HS HBe
  clear hb1 hb2 hpi hps hB2 hB3 hB4 b3 HR HR1 HW hs3 x0 x1 x2 y0 y1 y2 hW3
  go_wp2_with fail
  refine HS.out.mono ?_
  rintro e w5 ⟨rfl, hb5⟩
  have HBf := hide (HBe.out.trans (hb5.mono HBe.out.size))
  clear hb5 HBe HS
  go_wp2
  go_ret
  exact ⟨rfl, HBf.out⟩

end Go.Proofs.Ytjhkadffaephmaa
