/-
  WireWrites.
-/
import Derived.Test.YtjhkadffaephmaaLawWireA
import Derived.Test.YtjhkadffaephmaaRefWire
namespace Go.Proofs.Ytjhkadffaephmaa
set_option maxRecDepth 100000
open Go.RowKit

set_option maxHeartbeats 2000000 in
theorem wireWrites_any (p : PktM) (w : World) (h : p.In w.heap.size w) :
    Calls Try.prog 14 #[p.val] w fun e w' => e = .returned (.bool true) ∧ Below w.heap.size w w' := by
  have HW := hide (fun W (hb : Below w.heap.size w W) => write_any p W (h.grown hb))
  have HR := hide (fun W (hb : Below w.heap.size w W) => writeOf_any p W (h.grown hb))
  have hB0 : Below w.heap.size w (w.alloc (.cells p.cells 79)) := (Below.refl _ w).alloc (Nat.le_refl _) _
  have b0 := Blk.new w p.cells 79
  generalize p.pkt.err = er at *
  simp only [txt] at HW HR
  generalize ByteArray.mk p.pkt.text.toArray = s at *
  have hee : (er == er) = true := by simp
  have hss : (s.toList == s.toList) = true := by simp
  simp only [PktM.val, PktM.cells] at *
  have HW1 := hide (HW.out _ hB0)
  go_enter Try.func14, Try.ntmps14
  go_wp2_with fail
  first
  | go_at_call 52
  | skip
  refine HW1.out.mono ?_
  rintro e w1 ⟨rfl, hb1⟩
  have hB1 := hB0.trans (hb1.mono hB0.size)
  have b1 := b0.below hb1 b0.lt
  have x0 := b1.cell 0
  have x1 := b1.cell 1
  have x2 := b1.cell 2
  simp at x0 x1 x2
  have HR1 := hide (HR.out _ hB1)
  clear HW HW1 HR
  go_wp2_with fail
  first
  | go_at_call 53
  | skip
  refine HR1.out.mono ?_
  rintro e w2 ⟨rfl, hb2⟩
  have HB2 := hide (hB1.trans (hb2.mono hB1.size))
  clear HR1 hb2 hb1 hB1 hB0 b0 b1 x0 x1 x2
  go_wp2_with fail
  first
  | go_at_call 54
  | skip
  refine (wireBegun_any _).mono ?_
  rintro e w3 ⟨rfl, hb3⟩
  have HB3 := hide (HB2.out.trans (hb3.mono HB2.out.size))
  clear hb3 HB2
  go_wp2
  go_ret
  exact ⟨rfl, HB3.out⟩

end Go.Proofs.Ytjhkadffaephmaa
