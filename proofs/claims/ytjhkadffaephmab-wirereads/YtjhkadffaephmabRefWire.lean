/-
  The document's reckoning of packets: SumOf, WriteOf.
-/
import Derived.Test.YtjhkadffaephmabWireR
namespace Go.Proofs.Ytjhkadffaephmab
set_option maxRecDepth 100000
open Go.RowKit

set_option maxHeartbeats 1000000 in
theorem sumOf_any (l : List UInt8) (w : World) (hl : l.length ≤ 100) :
    Calls Try.prog 64 #[txt l] w fun e w' => e = .returned (.int .i64 ((sumOf l : Nat) : Int)) ∧ ∃ m, w' = w.drewN m := by
  have hsz : (ByteArray.mk l.toArray).size = l.length := by simp [ByteArray.size]
  have HG : Hid (∀ (k : Nat) (h : k < (ByteArray.mk l.toArray).size), (ByteArray.mk l.toArray)[k] = l.getD k 0) := hide (fun k h => read_idx h)
  have HE : Hid (sumOf (l.take l.length) = sumOf l) := hide (by rw [List.take_length])
  unfold txt
  generalize ByteArray.mk l.toArray = s at *
  go_enter Try.func64, Try.ntmps64
  go_wp2
  go_loop [3, 4] (fun s i => ∃ k : Nat, k ≤ l.length ∧ i = .int .i64 k ∧ s = .int .i64 ((sumOf (l.take k) : Nat) : Int)) (fun _ i => l.length - (intOf i).toNat)
  case atStart => exact ⟨0, Nat.zero_le _, rfl, rfl⟩
  case round =>
    obtain ⟨k, hk, rfl, rfl⟩ := hrel
    by_cases hlt : k < l.length
    · have hs := sumOf_lt (l.take k)
      have hb := (l[k]).toNat_lt
      have hg : ∀ h : k < s.size, (s[k]'h).toNat = (l[k]).toNat := fun h => by
        rw [HG.out k h, List.getD_eq_getElem?_getD, List.getElem?_eq_getElem hlt]; rfl
      have Hn : Hid (sumOf (l.take (k + 1)) = (31 * sumOf (l.take k) + (l[k]).toNat) % 65521) := hide (by rw [List.take_succ_eq_append_getElem hlt, sumOf_snoc]; rfl)
      generalize sumOf (l.take k) = sv at *
      generalize (l[k]).toNat = bv at *
      have hki : (k : Int) < (l.length : Int) := by omega
      go_wp2
      go_round
      case rel => exact ⟨k + 1, by omega, by go_num, by rw [Hn.out]; go_num⟩
      case measure => simp [intOf]; omega
    · have hkn : k = l.length := by omega
      subst hkn
      rw [HE.out]
      go_wp2
      go_ret
      exact ⟨rfl, 0, rfl⟩

/-- A slice of bytes that was just built, as a string. -/
theorem conv_lit (W : World) (l : List UInt8) (vs : Array Value) (hv : vs = (bytesL l).toArray) (n : Nat) (hn : n = l.length) :
    (convert 34 9 (.slice (some ⟨W.heap.size, 0, none⟩) n n)).run Try.prog (W.alloc (.cells vs 5)) = .ok (.string ⟨l.toArray⟩) (W.alloc (.cells vs 5)) := by
  subst hn hv
  refine run_convert_bytes_back (P := Try.prog) (W.alloc (.cells (bytesL l).toArray 5)) 34 9 5 ⟨W.heap.size, 0, none⟩ l.length l Try.underlying34 Try.underlying5 Try.underlying9 (fun j hj => ?_)
  rw [Go.WideShapes.add_plain, (Blk.new W (bytesL l).toArray 5).cell (0 + j)]
  simp [bytesL_get hj]

end Go.Proofs.Ytjhkadffaephmab
