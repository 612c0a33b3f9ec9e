/-
  signpostref.DeepOf and WideOf; how they make plan.tooMany's answer.
-/
import Derived.Test.YtjhkadffaephmaaPlanA
namespace Go.Proofs.Ytjhkadffaephmaa
open Go.RowKit

/-- Are there more than d plans within each other? -/
def PlanM.deep : PlanM → Nat → Bool
  | .node none _, _ => true
  | .node (some _) _, 0 => true
  | .node (some h) sub, d + 1 => (List.range h.pn).any fun i => (sub rfl i).deep d
/-- Has one more than eight edges? -/
def PlanM.wide : PlanM → Bool
  | .node none _ => true
  | .node (some h) sub => decide (8 < h.en) || (List.range h.pn).any fun i => (sub rfl i).wide

theorem many_eq (p : PlanM) : ∀ d, p.many d = (p.deep d || p.wide) := by
  induction p using PlanM.ind with
  | no => exact fun d => by simp [PlanM.many, PlanM.deep]
  | mk h sub ih =>
    intro d
    cases d with
    | zero => simp [PlanM.many, PlanM.deep]
    | succ d =>
      simp only [PlanM.many, PlanM.deep, PlanM.wide, ih]
      rw [Bool.eq_iff_iff]
      simp only [Bool.or_eq_true, List.any_eq_true, List.mem_range, decide_eq_true_eq]
      constructor
      · rintro (h8 | ⟨i, hi, h1 | h1⟩)
        · exact Or.inr (Or.inl h8)
        · exact Or.inl ⟨i, hi, h1⟩
        · exact Or.inr (Or.inr ⟨i, hi, h1⟩)
      · rintro (⟨i, hi, h1⟩ | h8 | ⟨i, hi, h1⟩)
        · exact Or.inr ⟨i, hi, Or.inl h1⟩
        · exact Or.inl h8
        · exact Or.inr ⟨i, hi, Or.inr h1⟩

theorem wide_at {h : PHead} {sub : Nat → PlanM} {i : Nat} (hi : i < h.pn) (hm : (sub i).wide = true) : (PlanM.mk h sub).wide = true := by
  simp only [PlanM.wide, Bool.or_eq_true, List.any_eq_true, List.mem_range]
  exact Or.inr ⟨i, hi, hm⟩
theorem wide_none {h : PHead} {sub : Nat → PlanM} (he : h.en ≤ 8) (hm : ∀ i, i < h.pn → (sub i).wide = false) : (PlanM.mk h sub).wide = false := by
  simp only [PlanM.wide, Bool.or_eq_false_iff, List.any_eq_false, List.mem_range, decide_eq_false_iff_not]
  exact ⟨by omega, fun i hi => by simp [hm i hi]⟩

set_option maxHeartbeats 2000000 in
theorem wideOf_any (p : PlanM) : ∀ (w : World), p.In w.heap.size w →
    Calls Try.prog 67 #[p.head.val] w fun e w' => e = .returned (.bool p.wide) ∧ Below w.heap.size w w' := by
  induction p using PlanM.ind with
  | no => exact fun _ h => False.elim h
  | mk h sub ih =>
    intro w hin
    have IH := hide ih
    clear ih
    obtain ⟨hh, hs⟩ := hin
    have hel := hh.elen
    have hpl := hh.plen
    unfold maxLen at hel
    have hb0 : Below w.heap.size w (w.alloc (.cells h.cells 42)) := (Below.refl _ w).alloc (Nat.le_refl _) _
    have b0 := Blk.new w h.cells 42
    simp only [head_mk, PHead.val, PHead.cells] at *
    have c2 := b0.cell 2
    have c3 := b0.cell 3
    simp at c2 c3
    by_cases he : 8 < h.en
    · have Hm : Hid ((PlanM.mk h sub).wide = true) := hide (by simp [PlanM.wide, he])
      have hei : (8 : Int) < (h.en : Int) := by omega
      go_enter Try.func67, Try.ntmps67
      go_wp2
      go_ret
      exact ⟨by rw [Hm.out]; rfl, hb0⟩
    · have hei : (h.en : Int) ≤ 8 := by omega
      go_enter Try.func67, Try.ntmps67
      go_wp2
      go_loopw [3] (fun i wr => ∃ k : Nat, k ≤ h.pn ∧ i = .int .i64 k ∧ Hid (∀ j, j < k → (sub j).wide = false) ∧ Hid (Below (w.heap.size + 1) (w.alloc (.cells #[.int .i64 h.kind, .int .i64 h.n, .slice h.eg h.en h.ec, .slice h.pg h.pn h.pc] 42)) wr)) (fun i _ => h.pn - (intOf i).toNat)
      case atStart => exact ⟨0, Nat.zero_le _, rfl, hide (fun j hj => absurd hj (Nat.not_lt_zero _)), hide (Below.refl _ _)⟩
      case round =>
        obtain ⟨k, hk, rfl, Hall, HB⟩ := hrel
        have b1 := b0.below HB.out (by omega)
        have d3 := b1.cell 3
        simp at d3
        have HW := hide (hb0.trans (HB.out.mono (by omega)))
        by_cases hlt : k < h.pn
        · obtain ⟨hat, hsub⟩ := hs k hlt
          have hpa := hh.pa (by omega)
          have hat' := hat.below HW.out (hh.pl (by omega))
          have q0 := hat'.c0
          have q1 := hat'.c1
          have q2 := hat'.c2
          have q3 := hat'.c3
          have hki : (k : Int) < (h.pn : Int) := by omega
          have HI := hide (hsub.grown HW.out)
          go_wp2_with fail
          go_at_call 67
          refine (IH.out k _ HI.out).mono ?_
          rintro e w1 ⟨rfl, hb1⟩
          have hB1 := hide (HB.out.trans (hb1.mono (by have := HB.out.size; simp at this; omega)))
          have hW1 := hide (HW.out.trans (hb1.mono HW.out.size))
          cases hm : (sub k).wide with
          | true =>
            have Hm := hide (wide_at hlt hm)
            clear hm
            go_wp2
            go_ret
            exact ⟨by rw [Hm.out]; rfl, hW1.out⟩
          | false =>
            have Hm := hide hm
            clear hm
            go_wp2
            go_roundw
            case rel =>
              have hn : ∀ j, j < k + 1 → (sub j).wide = false := fun j hj => by
                by_cases e : j = k
                · subst e; exact Hm.out
                · exact Hall.out j (by omega)
              first
              | exact ⟨k + 1, by omega, by go_num, hide hn, hB1⟩
              | (rw [← hpa]; (repeat apply Exists.intro); exact ⟨⟨k + 1, by omega, by go_num, hide hn, hB1⟩, rfl⟩)
            case measure => simp [intOf]; omega
        · have Hm := hide (wide_none (h := h) (sub := sub) (by omega) (fun i hi => Hall.out i (by omega)))
          go_wp2
          go_ret
          exact ⟨by rw [Hm.out]; rfl, HW.out⟩

theorem deep_zero (p : PlanM) : p.deep 0 = true := by
  induction p using PlanM.ind with
  | no => rfl
  | mk h sub _ => rfl
theorem deep_succ {h : PHead} {sub : Nat → PlanM} {d : Nat} : (PlanM.mk h sub).deep (d + 1) = true ↔ ∃ i, i < h.pn ∧ (sub i).deep d = true := by
  simp only [PlanM.deep, List.any_eq_true, List.mem_range]

set_option maxHeartbeats 2000000 in
theorem deepOf_any (p : PlanM) : ∀ (d : Nat) (w : World), d ≤ 4 → p.In w.heap.size w →
    Calls Try.prog 66 #[p.head.val, .int .i64 d] w fun e w' => ∃ n : Nat, e = .returned (.int .i64 n) ∧ (1 ≤ n ∧ n ≤ d + 1 ∧ (d < n ↔ p.deep d = true)) ∧ Below w.heap.size w w' := by
  induction p using PlanM.ind with
  | no => exact fun _ _ _ h => False.elim h
  | mk h sub ih =>
    intro d w hd hin
    have IH := hide ih
    clear ih
    obtain ⟨hh, hs⟩ := hin
    have hpl := hh.plen
    have hb0 : Below w.heap.size w (w.alloc (.cells h.cells 42)) := (Below.refl _ w).alloc (Nat.le_refl _) _
    have b0 := Blk.new w h.cells 42
    simp only [head_mk, PHead.val, PHead.cells] at *
    have c3 := b0.cell 3
    simp at c3
    cases d with
    | zero =>
      have Hz := hide (deep_zero (PlanM.mk h sub))
      go_enter Try.func66, Try.ntmps66
      go_wp2
      go_loopw [5, 6] (fun o i wr => i = .int .i64 0 ∧ o = .int .i64 1 ∧ wr = (w.alloc (.cells #[.int .i64 h.kind, .int .i64 h.n, .slice h.eg h.en h.ec, .slice h.pg h.pn h.pc] 42))) (fun _ _ _ => 0)
      case atStart => exact ⟨rfl, rfl, rfl⟩
      case round =>
        obtain ⟨rfl, rfl, rfl⟩ := hrel
        by_cases hp : 0 < h.pn
        · have hpi : (0 : Int) < (h.pn : Int) := by omega
          go_wp2
          go_ret
          exact ⟨1, rfl, ⟨by omega, by omega, by simp [Hz.out]⟩, hb0⟩
        · have hpi : (h.pn : Int) ≤ 0 := by omega
          go_wp2
          go_ret
          exact ⟨1, rfl, ⟨by omega, by omega, by simp [Hz.out]⟩, hb0⟩
    | succ d =>
      have hdi : (0 : Int) < (d : Int) + 1 := by omega
      go_enter Try.func66, Try.ntmps66
      go_wp2
      go_loopw [5, 6] (fun o i wr => ∃ k n : Nat, k ≤ h.pn ∧ o = .int .i64 n ∧ i = .int .i64 k ∧ Hid (1 ≤ n ∧ n ≤ d + 2 ∧ (d + 1 < n ↔ ∃ j, j < k ∧ (sub j).deep d = true)) ∧ Hid (Below (w.heap.size + 1) (w.alloc (.cells #[.int .i64 h.kind, .int .i64 h.n, .slice h.eg h.en h.ec, .slice h.pg h.pn h.pc] 42)) wr)) (fun _ i _ => h.pn - (intOf i).toNat)
      case atStart => exact ⟨0, 1, Nat.zero_le _, rfl, rfl, hide ⟨by omega, by omega, by constructor; omega; rintro ⟨j, hj, _⟩; omega⟩, hide (Below.refl _ _)⟩
      case round =>
        obtain ⟨k, n, hk, rfl, rfl, Hn, HB⟩ := hrel
        have b1 := b0.below HB.out (by omega)
        have d3 := b1.cell 3
        simp at d3
        have HW := hide (hb0.trans (HB.out.mono (by omega)))
        by_cases hlt : k < h.pn
        · obtain ⟨hat, hsub⟩ := hs k hlt
          have hpa := hh.pa (by omega)
          have hat' := hat.below HW.out (hh.pl (by omega))
          have q0 := hat'.c0
          have q1 := hat'.c1
          have q2 := hat'.c2
          have q3 := hat'.c3
          have hki : (k : Int) < (h.pn : Int) := by omega
          have HI := hide (hsub.grown HW.out)
          go_wp2_with fail
          go_at_call 66
          refine (IH.out k d _ (by omega) HI.out).mono ?_
          rintro e w1 ⟨r, rfl, hr, hb1⟩
          have hB1 := hide (HB.out.trans (hb1.mono (by have := HB.out.size; simp at this; omega)))
          have hW1 := hide (HW.out.trans (hb1.mono HW.out.size))
          have hr1 := hr.2.1
          have Hr := hide hr
          clear hr
          have hstep : ∀ m : Nat, 1 ≤ m → m ≤ d + 2 → (d + 1 < m ↔ (d + 1 < n ∨ d < r)) → (1 ≤ m ∧ m ≤ d + 2 ∧ (d + 1 < m ↔ ∃ j, j < k + 1 ∧ (sub j).deep d = true)) := fun m h1 h2 h3 => ⟨h1, h2, by
            rw [h3, Hn.out.2.2, Hr.out.2.2]
            constructor
            · rintro (⟨j, hj, hd⟩ | hd)
              · exact ⟨j, by omega, hd⟩
              · exact ⟨k, by omega, hd⟩
            · rintro ⟨j, hj, hd⟩
              by_cases e : j = k
              · subst e; exact Or.inr hd
              · exact Or.inl ⟨j, by omega, hd⟩⟩
          have HS := hide hstep
          clear hstep
          have hn2 := Hn.out.2.1
          by_cases hgt : n < 1 + r
          · have hgi : (n : Int) < 1 + (r : Int) := by omega
            have Hg := hide hgt
            clear hgt
            go_wp2
            go_roundw
            case rel =>
              have hn := HS.out (1 + r) (by omega) (by omega) (by have := Hg.out; omega)
              first
              | exact ⟨k + 1, 1 + r, by omega, by go_num, by go_num, hide hn, hB1⟩
              | (rw [← hpa]; (repeat apply Exists.intro); exact ⟨⟨k + 1, 1 + r, by omega, by go_num, by go_num, hide hn, hB1⟩, rfl⟩)
            case measure => simp [intOf]; omega
          · have hgi : 1 + (r : Int) ≤ (n : Int) := by omega
            have Hg := hide hgt
            clear hgt
            go_wp2
            go_roundw
            case rel =>
              have hn := HS.out n Hn.out.1 Hn.out.2.1 (by have := Hg.out; omega)
              first
              | exact ⟨k + 1, n, by omega, rfl, by go_num, hide hn, hB1⟩
              | (rw [← hpa]; (repeat apply Exists.intro); exact ⟨⟨k + 1, n, by omega, rfl, by go_num, hide hn, hB1⟩, rfl⟩)
            case measure => simp [intOf]; omega
        · have hki : (h.pn : Int) ≤ (k : Int) := by omega
          go_wp2
          go_ret
          refine ⟨n, rfl, ⟨Hn.out.1, Hn.out.2.1, ?_⟩, HW.out⟩
          rw [Hn.out.2.2, deep_succ]
          constructor
          · rintro ⟨j, hj, hd⟩; exact ⟨j, by omega, hd⟩
          · rintro ⟨j, hj, hd⟩; exact ⟨j, by omega, hd⟩

end Go.Proofs.Ytjhkadffaephmaa
