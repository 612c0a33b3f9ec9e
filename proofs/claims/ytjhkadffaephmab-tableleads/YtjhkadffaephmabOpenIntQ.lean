/-
  A number as it came: its range.
-/
import Derived.Test.YtjhkadffaephmabBundleEB
namespace Go.Proofs.Ytjhkadffaephmab
open Go.RowKit

theorem int_range {a : Int} (h : (Lit.int .i64 a).wf = true) : -9223372036854775808 ≤ a ∧ a ≤ 9223372036854775807 := by
  simp [Lit.wf, IntKind.min, IntKind.max, IntKind.bits, IntKind.signed] at h
  omega

end Go.Proofs.Ytjhkadffaephmab
