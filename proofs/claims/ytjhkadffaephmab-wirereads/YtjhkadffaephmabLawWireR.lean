/-
  WireReads.
-/
import Derived.Test.YtjhkadffaephmabLawWireA
import Derived.Test.YtjhkadffaephmabRefReadB
namespace Go.Proofs.Ytjhkadffaephmab
set_option maxRecDepth 100000
open Go.RowKit

theorem Pkt.same_symm {p q : Pkt} (h : p.same q) : q.same p := ⟨h.1.symm, h.2.1.symm, h.2.2.1.symm, fun i hi => (h.2.2.2 i (by have := h.2.2.1; omega)).symm⟩
theorem Pkt.same_trans {p q r : Pkt} (h : p.same q) (h2 : q.same r) : p.same r := ⟨h.1.trans h2.1, h.2.1.trans h2.2.1, h.2.2.1.trans h2.2.2.1, fun i hi => (h.2.2.2 i hi).trans (h2.2.2.2 i (by have := h.2.2.1; omega))⟩

set_option maxHeartbeats 2000000 in
theorem wireReads_any (l : List UInt8) (w : World) (hl : l.length ≤ maxLen) :
    Calls Try.prog 3 #[txt l] w fun e w' => e = .returned (.bool true) ∧ Below w.heap.size w w' := by
  have HR := hide (read_any l w hl)
  have HQ := hide (fun W => readOf_any l W hl)
  unfold ReadAns at HR HQ
  have hee : (readErr l == readErr l) = true := by simp
  generalize readErr l = er at *
  simp only [txt] at *
  generalize ByteArray.mk l.toArray = s at *
  go_enter Try.func3, Try.ntmps3
  go_wp2_with fail
  go_at_call 13
  refine HR.out.mono ?_
  rintro e w1 ⟨⟨p, rfl, hps, hpi, _⟩, hb1⟩
  obtain ⟨W2, hW2⟩ : ∃ W2, W2 = w1.alloc (.cells p.cells 24) := ⟨_, rfl⟩
  have hB2 : Below w1.heap.size w1 W2 := by rw [hW2]; exact (Below.refl _ _).alloc (Nat.le_refl _) _
  have b2 : Blk W2 w1.heap.size p.cells 24 := by rw [hW2]; exact Blk.new w1 _ _
  have HQ2 := hide (HQ.out W2)
  rw [hW2] at HQ2
  have Hps := hide hps
  have Hpi := hide (hpi.grown hB2)
  have HB2 := hide (hb1.trans (hB2.mono hb1.size))
  simp only [PktM.val, PktM.cells] at *
  have HW2 := hide hW2
  clear HQ HR hps hpi hB2 hb1 hW2
  go_wp2_with fail
  go_at_call 14
  refine HQ2.out.mono ?_
  rintro e w3 ⟨⟨q, rfl, hqs, hqi, _⟩, hb3⟩
  rw [← HW2.out] at hb3
  have b3 := (b2.below hb3 b2.lt).alloc (.cells q.cells 24)
  have c3 := Blk.new w3 q.cells 24
  have hB4 : Below w3.heap.size w3 (w3.alloc (.cells q.cells 24)) := (Below.refl _ _).alloc (Nat.le_refl _) _
  have HBw : Hid (Below w.heap.size w (w3.alloc (.cells q.cells 24))) := hide ((HB2.out.trans (hb3.mono HB2.out.size)).trans (hB4.mono (by have := HB2.out.size; have := hb3.size; omega)))
  have Hpi3 := hide ((Hpi.out.grown hb3).grown hB4)
  have Hqi := hide (hqi.grown hB4)
  have Hqs := hide hqs
  simp only [PktM.cells] at b3 c3 HBw Hpi3 Hqi
  clear hqs hqi hb3 hB4 HQ2 b2
  go_wp2_with fail
  go_at_call 15
  refine (wireBegun_any _).mono ?_
  rintro e w5 ⟨rfl, hb5⟩
  have b5 := b3.below hb5 b3.lt
  have c5 := c3.below hb5 c3.lt
  have x0 := b5.cell 0
  have x1 := b5.cell 1
  have x2 := b5.cell 2
  have y0 := c5.cell 0
  have y1 := c5.cell 1
  have y2 := c5.cell 2
  simp at x0 x1 x2 y0 y1 y2
  have HS := hide (samePacket_yes p q w5 (Hpi3.out.grown hb5) (Hqi.out.grown hb5) (Pkt.same_trans Hps.out (Pkt.same_symm Hqs.out)))
  have HB5 := hide (HBw.out.trans (hb5.mono HBw.out.size))
  simp only [PktM.val, PktM.cells] at HS
  clear hb5 HBw b3 c3 b5 c5 Hpi3 Hqi Hpi
  go_wp2_with fail
  go_at_call 16
  refine HS.out.mono ?_
  rintro e w6 ⟨rfl, hb6⟩
  have HB6 := hide (HB5.out.trans (hb6.mono HB5.out.size))
  clear hb6 HB5
  go_wp2
  go_ret
  exact ⟨rfl, HB6.out⟩

end Go.Proofs.Ytjhkadffaephmab
