/-
  signpostref.PairOf: the number of a pair.
-/
import Derived.Test.YtjhkadffaephmaaRowLib
namespace Go.Proofs.Ytjhkadffaephmaa
set_option maxRecDepth 100000
open Go.RowKit

theorem calls_at (args : Array Value) (W : World) : (callFunc 137 args).run Try.prog W = .ok (.enter 137 args) W := by rfl

/-- The number of a pair: the last, if it is none. -/
def pairAt (s1 s2 p q : Nat) : Nat := if p < s1 ∧ q < s2 then p * s2 + q else s1 * s2

theorem pairAt_of {s1 s2 p q i : Nat} (hi : i < s1 * s2) (hs : 0 < s2) (hp : i / s2 = p) (hq : i % s2 = q) : pairAt s1 s2 p q = i := by
  subst hp
  subst hq
  unfold pairAt
  rw [if_pos ⟨by rw [Nat.div_lt_iff_lt_mul hs]; exact hi, Nat.mod_lt _ hs⟩]
  exact Nat.div_add_mod' i s2
theorem pairAt_none {s1 s2 p q : Nat} (hs : 0 < s2) (h : ∀ i, i < s1 * s2 → ¬ (i / s2 = p ∧ i % s2 = q)) : pairAt s1 s2 p q = s1 * s2 := by
  unfold pairAt
  by_cases hc : p < s1 ∧ q < s2
  · exfalso
    refine h (p * s2 + q) ?_ ⟨?_, ?_⟩
    · have : (p + 1) * s2 ≤ s1 * s2 := Nat.mul_le_mul_right _ (by omega)
      rw [Nat.succ_mul] at this
      omega
    · rw [Nat.mul_comm, Nat.mul_add_div hs, Nat.div_eq_of_lt hc.2]; rfl
    · rw [Nat.mul_comm, Nat.mul_add_mod, Nat.mod_eq_of_lt hc.2]
  · rw [if_neg hc]

/-- What the function sees. -/
structure AtSees (s1 s2 b9 b5 b6 gp gq cp cq : Nat) (W : World) : Prop where
  last : W.cell? ⟨b9, 0, none⟩ = some (.int .i64 ((s1 * s2 : Nat) : Int))
  ps : W.cell? ⟨b5, 0, none⟩ = some (.slice (some ⟨gp, 0, none⟩) (s1 * s2) cp)
  qs : W.cell? ⟨b6, 0, none⟩ = some (.slice (some ⟨gq, 0, none⟩) (s1 * s2) cq)
  pc : ∀ i, i < s1 * s2 → W.cell? ⟨gp, i, none⟩ = some (.int .i64 ((i / s2 : Nat) : Int))
  qc : ∀ i, i < s1 * s2 → W.cell? ⟨gq, i, none⟩ = some (.int .i64 ((i % s2 : Nat) : Int))

set_option maxHeartbeats 2000000 in
theorem at_any (s1 s2 b9 b5 b6 gp gq cp cq p q : Nat) (W : World) (h : AtSees s1 s2 b9 b5 b6 gp gq cp cq W) (hs : 0 < s2) (h24 : s1 * s2 ≤ 24) :
    Calls Try.prog 137 #[.int .i64 p, .int .i64 q, .pointer (some ⟨b9, 0, none⟩), .pointer (some ⟨b5, 0, none⟩), .pointer (some ⟨b6, 0, none⟩)] W fun e w' => e = .returned (.int .i64 ((pairAt s1 s2 p q : Nat) : Int)) ∧ w' = W := by
  have c9 := h.last
  have c5 := h.ps
  have c6 := h.qs
  have HF := hide (fun i (hi : i < s1 * s2) (hp : i / s2 = p) (hq : i % s2 = q) => pairAt_of hi hs hp hq)
  have HN := hide (fun (hh : ∀ i, i < s1 * s2 → ¬ (i / s2 = p ∧ i % s2 = q)) => pairAt_none (p := p) (q := q) hs hh)
  have HC := hide (fun i (hi : i < s1 * s2) => And.intro (h.pc i hi) (h.qc i hi))
  clear h
  generalize pairAt s1 s2 p q = res at *
  generalize s1 * s2 = inv at *
  go_enter Try.func137, Try.ntmps137
  go_wp2
  go_loop [8] (fun i => ∃ k : Nat, k ≤ inv ∧ i = .int .i64 k ∧ Hid (∀ r, r < k → ¬ (r / s2 = p ∧ r % s2 = q))) (fun i => inv - (intOf i).toNat)
  case atStart => exact ⟨0, Nat.zero_le _, rfl, hide fun r hr => absurd hr (Nat.not_lt_zero _)⟩
  case round =>
    obtain ⟨k, hk, rfl, Hall⟩ := hrel
    by_cases hlt : k < inv
    · obtain ⟨pc, qc⟩ := HC.out k hlt
      have hki : (k : Int) < (inv : Int) := by omega
      have Hf := hide (HF.out k hlt)
      have Hnx : Hid (¬ (k / s2 = p ∧ k % s2 = q) → ∀ r, r < k + 1 → ¬ (r / s2 = p ∧ r % s2 = q)) := hide (fun hn r hr => by
        by_cases e : r = k
        · subst e; exact hn
        · exact Hall.out r (by omega))
      generalize k / s2 = kp at *
      generalize k % s2 = kq at *
      by_cases e1 : kp = p
      · have f1 : ((kp : Int) == (p : Int)) = true := by simp [e1]
        by_cases e2 : kq = q
        · have f2 : ((kq : Int) == (q : Int)) = true := by simp [e2]
          have Hr := hide (Hf.out e1 e2)
          clear e1 e2
          go_wp2
          go_ret
          exact ⟨by rw [Hr.out]; rfl, rfl⟩
        · have f2 : ((kq : Int) == (q : Int)) = false := by simp; omega
          have Hr := hide (Hnx.out (fun hh => e2 hh.2))
          clear e1 e2
          go_wp2
          go_round
          case rel => exact ⟨k + 1, by omega, by go_num, Hr⟩
          case measure => simp [intOf]; omega
      · have f1 : ((kp : Int) == (p : Int)) = false := by simp; omega
        have Hr := hide (Hnx.out (fun hh => e1 hh.1))
        clear e1
        go_wp2
        go_round
        case rel => exact ⟨k + 1, by omega, by go_num, Hr⟩
        case measure => simp [intOf]; omega
    · have Hr := hide (HN.out (fun i hi => Hall.out i (by omega)))
      go_wp2
      go_ret
      exact ⟨by rw [Hr.out]; rfl, rfl⟩

end Go.Proofs.Ytjhkadffaephmaa
