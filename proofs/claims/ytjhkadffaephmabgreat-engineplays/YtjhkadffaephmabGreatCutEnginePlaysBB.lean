/-
  Our own texts, bundled: a claim holds few files.
-/
import Derived.Test.YtjhkadffaephmabGreatCutEnginePlaysAD
import Derived.Test.YtjhkadffaephmabGreatCutEnginePlaysBA
import Derived.Test.YtjhkadffaephmabGreatCutEnginePlaysAH
import Derived.Test.YtjhkadffaephmabGreatCutEnginePlaysAC
import Derived.Test.YtjhkadffaephmabGreatCutEnginePlaysAG
import Derived.Test.YtjhkadffaephmabGreatCutEnginePlaysAF
import Derived.Test.YtjhkadffaephmabGreatCutEnginePlaysAI
import Derived.Deep.AppendLies
import Derived.Laws.EntriesVeiled
/-
 signpostref.IsLawful, IsNode, EdgeOf, CheckNet, RowsOf, FitOf.
-/
namespace Go.Proofs.YtjhkadffaephmabGreat
set_option maxRecDepth 100000
open Go.RowKit

theorem between_q (n l m : Int) (w : World) :
  Calls Tryz.prog 24 #[.int .i64 n, .int .i64 l, .int .i64 m] w fun e w' => e = .returned (.bool (decide (l ≤ n) && decide (n ≤ m))) ∧ ∃ q, w' = w.drewN q :=
 (between_any n l m w).mono (fun _ _ ⟨h1, h2⟩ => ⟨h1, 0, h2⟩)

set_option maxHeartbeats 1000000 in
theorem refAll_any (w : World) :
  Calls Tryz.prog 51 #[] w fun e w' => e = .returned (.slice (some ⟨w.heap.size, 0, none⟩) 7 7) ∧ w' = w.alloc (.cells #[.int .i64 1, .int .i64 2, .int .i64 3, .int .i64 4, .int .i64 5, .int .i64 6, .int .i64 7] 3) := by
 go_enter Tryz.func51, Tryz.ntmps51
 go_wp2
 go_ret
 exact ⟨rfl, rfl⟩

/-- What stands all through IsLawful's region. -/
structure LawG (w : World) (a : AlgM) (W : World) : Prop where
 below : Below w.heap.size w W
 blk : Blk W w.heap.size #[.int .i64 a.size, a.B.val, a.E.val] 24
def LawE (a : AlgM) (i : Nat) (v : Value) (W : World) : Prop :=
 match i with
 | 0 => v = a.val
 | 1 => ∃ b, v = .slice (some ⟨b, 0, none⟩) 7 7 ∧ Blk W b #[.int .i64 1, .int .i64 2, .int .i64 3, .int .i64 4, .int .i64 5, .int .i64 6, .int .i64 7] 3
 | 2 => v = (a.alg.firstOf [1, 2, 3, 4, 5, 6, 7]).val
 | 3 => v = .int .i64 (a.alg.firstOf [1, 2, 3, 4, 5, 6, 7]).law
 | _ => v = .bool ((a.alg.firstOf [1, 2, 3, 4, 5, 6, 7]).law == 0)
theorem LawG.keep {w : World} {a : AlgM} {W W' : World} (h : LawG w a W) (hb : Below W.heap.size W W') : LawG w a W' := ⟨h.below.trans (hb.mono h.below.size), h.blk.below hb h.blk.lt⟩
theorem LawE.keep {a : AlgM} {W W' : World} (hb : Below W.heap.size W W') (i : Nat) (v : Value) (h : LawE a i v W) : LawE a i v W' := by
 unfold LawE at *
 split at h
 all_goals first | exact h | skip
 obtain ⟨b, h1, h2⟩ := h
 exact ⟨b, h1, h2.below hb h2.lt⟩

set_option maxHeartbeats 2000000 in
theorem isLawful_any (a : AlgM) (w : World) (h : a.In w.heap.size w) (hc : a.alg.check = 0) :
  Calls Tryz.prog 23 #[a.val] w fun e w' => e = .returned (.bool ((a.alg.tell [1, 2, 3, 4, 5, 6, 7]).law == 0)) ∧ Below w.heap.size w w' := by
 have ht : a.alg.tell [1, 2, 3, 4, 5, 6, 7] = a.alg.firstOf [1, 2, 3, 4, 5, 6, 7] := by unfold Alg.tell; rw [if_pos hc]
 rw [ht]
 have g := Alg.good_of_check hc
 have hB0 : Below w.heap.size w (w.alloc (.cells #[.int .i64 a.size, a.B.val, a.E.val] 24)) := (Below.refl _ w).alloc (Nat.le_refl _) _
 have b0 := Blk.new w #[.int .i64 a.size, a.B.val, a.E.val] 24
 have HF := hide (fun W (hb : Below w.heap.size w W) b (hbk : Blk W b #[.int .i64 1, .int .i64 2, .int .i64 3, .int .i64 4, .int .i64 5, .int .i64 6, .int .i64 7] 3) => refFirst_any a g [1, 2, 3, 4, 5, 6, 7] (by decide) (by decide) b W ((h.below hb (Nat.le_refl _)).mono hb.size) hbk.lt (fun i hi => by
  rw [hbk.cell i]
  match i, hi with
  | 0, _ => rfl
  | 1, _ => rfl
  | 2, _ => rfl
  | 3, _ => rfl
  | 4, _ => rfl
  | 5, _ => rfl
  | 6, _ => rfl))
 clear ht g hc h
 simp only [AlgM.val] at HF ⊢
 go_enter Tryz.func23, Tryz.ntmps23
 go_wp2_with fail
 refine wp_region_each (LawG w a) (LawE a) (by kernel_rfl) (by kernel_rfl) (by kernel_rfl) ⟨below_drewN hB0 1, b0.drewN 1⟩ ⟨?_, ?_, ?_, ?_, ?_, ?_, trivial⟩ ?_
 all_goals clear hB0 b0
 rotate_right
 ·intro t W hG hE
  have e4 : t 4 = .bool ((a.alg.firstOf [1, 2, 3, 4, 5, 6, 7]).law == 0) := hE 4 (by decide)
  have e5 : t 5 = .bool ((a.alg.firstOf [1, 2, 3, 4, 5, 6, 7]).law == 0) := hE 5 (by decide)
  have hGb := hG.below
  clear hE hG
  simp only [fill, Act.put, List.setIfInBounds_toArray, List.set_cons_zero, List.set_cons_succ, e4, e5]
  go_wp2
  go_ret
  exact ⟨rfl, hGb⟩
 all_goals intro t W hG hp K hK
 all_goals simp only [fill, Act.put, List.setIfInBounds_toArray, List.set_cons_zero, List.set_cons_succ] at hK ⊢
 all_goals rw [if_pos (by rfl)]
 ·have c0 := hG.blk.cell 0
  have c1 := hG.blk.cell 1
  have c2 := hG.blk.cell 2
  simp at c0 c1 c2
  go_simp
  exact hK _ W hG rfl (fun _ _ _ h => h)
 ·go_simp
  go_at_call 51
  refine (refAll_any W).mono ?_
  rintro e W' ⟨rfl, rfl⟩
  have hb : Below W.heap.size W (W.alloc (.cells #[.int .i64 1, .int .i64 2, .int .i64 3, .int .i64 4, .int .i64 5, .int .i64 6, .int .i64 7] 3)) := (Below.refl _ W).alloc (Nat.le_refl _) _
  go_simp
  exact hK _ _ (hG.keep hb) ⟨W.heap.size, rfl, Blk.new W _ _⟩ (fun j u _ => LawE.keep hb j u)
 ·have e0 : t 0 = a.val := hp 0 (by decide)
  obtain ⟨b, e1, hb⟩ := hp 1 (by decide)
  rw [AlgM.val] at e0
  simp only [e0, e1] at hK ⊢
  go_simp
  go_at_call 50
  refine (HF.out W hG.below b hb).mono ?_
  rintro e W' ⟨rfl, hb'⟩
  go_simp
  exact hK _ _ (hG.keep hb') rfl (fun j u _ => LawE.keep hb' j u)
 ·have e2 : t 2 = (a.alg.firstOf [1, 2, 3, 4, 5, 6, 7]).val := hp 2 (by decide)
  rw [Brk.val] at e2
  simp only [e2] at hK ⊢
  go_simp
  exact hK _ W hG rfl (fun _ _ _ h => h)
 ·have e3 : t 3 = .int .i64 (a.alg.firstOf [1, 2, 3, 4, 5, 6, 7]).law := hp 3 (by decide)
  simp only [e3] at hK ⊢
  go_simp
  exact hK _ W hG rfl (fun _ _ _ h => h)
 ·have e4 : t 4 = .bool ((a.alg.firstOf [1, 2, 3, 4, 5, 6, 7]).law == 0) := hp 4 (by decide)
  simp only [e4] at hK ⊢
  go_simp
  exact hK _ W hG rfl (fun _ _ _ h => h)

set_option maxHeartbeats 1000000 in
theorem isNode_any (n : NetM) (i : Int) (w : World) (h1 : 1 ≤ n.nodes) (h6 : n.nodes ≤ 6) :
  Calls Tryz.prog 25 #[n.val, .int .i64 i] w fun e w' => e = .returned (.bool (decide (0 ≤ i) && decide (i ≤ n.nodes - 1))) ∧ w' = w.alloc (.cells n.cells 27) := by
 simp only [NetM.val, NetM.cells, Mat.val]
 go_enter Tryz.func25, Tryz.ntmps25
 go_wp2_with fail
 go_at_call 24
 refine (between_any _ _ _ _).mono ?_
 rintro e w' ⟨rfl, rfl⟩
 go_wp2
 go_ret
 exact ⟨rfl, rfl⟩

theorem Net.edge_at {n : Net} {i k : Int} {l : Nat} (hl : l < n.ln) (h0 : ∀ j, j < l → ¬ (n.F j = i ∧ n.T j = k)) (h1 : n.F l = i) (h2 : n.T l = k) : n.edge i k = n.E l := by
 unfold Net.edge
 have : (List.range n.ln).find? (fun l => n.F l == i && n.T l == k) = some l := by
  rw [List.find?_range_eq_some]
  refine ⟨by simp [h1, h2], by simpa using hl, fun j hj => ?_⟩
  have := h0 j hj
  simp only [Bool.not_eq_true', Bool.and_eq_false_iff, beq_eq_false_iff_ne]
  exact Classical.byContradiction fun hc => this ⟨Classical.byContradiction fun e => hc (Or.inl e), Classical.byContradiction fun e => hc (Or.inr e)⟩
 rw [this]
 rfl
theorem Net.edge_no {n : Net} {i k : Int} (h0 : ∀ j, j < n.ln → ¬ (n.F j = i ∧ n.T j = k)) : n.edge i k = -1 := by
 unfold Net.edge
 have : (List.range n.ln).find? (fun l => n.F l == i && n.T l == k) = none := by
  rw [List.find?_eq_none]
  intro j hj hx
  simp at hj hx
  exact h0 j hj hx
 rw [this]
 rfl

/-- None of the first l links goes from i to k. -/
def Net.noLink (n : Net) (i k : Int) (l : Nat) : Prop := ∀ j, j < l → ¬ (n.F j = i ∧ n.T j = k)

set_option maxHeartbeats 2000000 in
theorem edgeOf_any (n : NetM) (i k : Int) (w : World) (h : n.In w.heap.size w) :
  Calls Tryz.prog 30 #[n.val, .int .i64 i, .int .i64 k] w fun e w' => e = .returned (.int .i64 (n.net.edge i k)) ∧ w' = w.alloc (.cells n.cells 27) := by
 have hlen := h.len
 unfold maxLen at hlen
 have H := hide (fun o => h.below ((Below.refl _ w).alloc (Nat.le_refl _) o) (Nat.le_refl _))
 have HLa := hide h.la
 clear h
 simp only [NetM.val, NetM.cells, Mat.val] at *
 go_enter Tryz.func30, Tryz.ntmps30
 go_wp2
 go_loop [7] (fun q => ∃ l : Nat, l ≤ n.ln ∧ q = .int .i64 l ∧ Hid (n.net.noLink i k l)) (fun q => n.ln - (intOf q).toNat)
 case atStart => exact ⟨0, Nat.zero_le _, rfl, hide fun r hr => absurd hr (Nat.not_lt_zero _)⟩
 case round =>
  obtain ⟨l, hl, rfl, Hall⟩ := hrel
  by_cases hlt : l < n.ln
  ·have hla := HLa.out (by omega)
   have c0 := fun o => (H.out o).f l hlt
   have c1 := fun o => (H.out o).t l hlt
   have c2 := fun o => (H.out o).e l hlt
   have hli : (l : Int) < (n.ln : Int) := by omega
   by_cases hF : n.F l = i
   ·have hF' : (n.F l == i) = true := by simp [hF]
    by_cases hT : n.T l = k
    ·have hT' : (n.T l == k) = true := by simp [hT]
     have hfin := hide (Net.edge_at (n := n.net) (i := i) (k := k) hlt Hall.out hF hT)
     clear hF hT
     go_wp2
     go_ret
     exact ⟨by rw [hfin.out]; rfl, rfl⟩
    ·have hT' : (n.T l == k) = false := by simp [hT]
     have Hn : Hid (n.net.noLink i k (l + 1)) := hide (fun j hj => by
      by_cases e : j = l
      ·subst e; exact fun hx => hT hx.2
      ·exact Hall.out j (by omega))
     clear hF hT
     go_wp2
     go_round
     case rel =>
      first
      | exact ⟨l + 1, by omega, by go_num, Hn⟩
      | ((try rw [← hla]); (repeat apply Exists.intro); refine ⟨?_, rfl⟩; exact ⟨l + 1, by omega, by go_num, Hn⟩)
      | (rw [← hla]; refine ⟨trivial, ?_⟩; (repeat apply Exists.intro); refine ⟨?_, rfl⟩; exact ⟨l + 1, by omega, by go_num, Hn⟩)
     case measure => simp [intOf]; omega
   ·have hF' : (n.F l == i) = false := by simp [hF]
    have Hn : Hid (n.net.noLink i k (l + 1)) := hide (fun j hj => by
     by_cases e : j = l
     ·subst e; exact fun hx => hF hx.1
     ·exact Hall.out j (by omega))
    clear hF
    go_wp2
    go_round
    case rel =>
     first
     | exact ⟨l + 1, by omega, by go_num, Hn⟩
     | ((try rw [← hla]); (repeat apply Exists.intro); refine ⟨?_, rfl⟩; exact ⟨l + 1, by omega, by go_num, Hn⟩)
     | (rw [← hla]; refine ⟨trivial, ?_⟩; (repeat apply Exists.intro); refine ⟨?_, rfl⟩; exact ⟨l + 1, by omega, by go_num, Hn⟩)
    case measure => simp [intOf]; omega
  ·have hfin := hide (Net.edge_no (n := n.net) (i := i) (k := k) (fun j hj => Hall.out j (by have : j < n.ln := hj; omega)))
   have hli : (n.ln : Int) ≤ (l : Int) := by omega
   go_wp2
   go_ret
   exact ⟨by rw [hfin.out]; rfl, rfl⟩

theorem Net.linkErr_six {n : Net} {k : Nat} (h0 : ¬ ((n.F k < 0 ∨ n.nodes ≤ n.F k) ∨ (n.T k < 0 ∨ n.nodes ≤ n.T k) ∨ (n.E k < 0 ∨ (n.a.E.len : Int) ≤ n.E k))) (h1 : ¬ n.F k = n.T k) {j : Nat} (hj : j < k) (hF : n.F j = n.F k) (hT : n.T j = n.T k) : n.linkErr k = 6 := by
 unfold Net.linkErr
 rw [if_neg h0, if_neg h1, if_pos]
 unfold Net.twice
 rw [List.any_eq_true]
 exact ⟨j, by simpa using hj, by simp [hF, hT]⟩
theorem Net.linkErr_zero {n : Net} {k : Nat} (h0 : ¬ ((n.F k < 0 ∨ n.nodes ≤ n.F k) ∨ (n.T k < 0 ∨ n.nodes ≤ n.T k) ∨ (n.E k < 0 ∨ (n.a.E.len : Int) ≤ n.E k))) (h1 : ¬ n.F k = n.T k) (h2 : n.noLink (n.F k) (n.T k) k) : n.linkErr k = 0 := by
 unfold Net.linkErr
 rw [if_neg h0, if_neg h1, if_neg]
 unfold Net.twice
 intro hx
 rw [List.any_eq_true] at hx
 obtain ⟨j, hj, hx⟩ := hx
 simp at hj hx
 exact h2 j hj hx

set_option maxHeartbeats 4000000 in
theorem refNet_any (n : NetM) (w : World) (h : n.In w.heap.size w) :
  Calls Tryz.prog 7 #[n.val] w fun e w' => e = .returned (.int .i64 n.net.check) ∧ Below w.heap.size w w' := by
 have hlen := h.len
 unfold maxLen at hlen
 have hEl := h.a.E.len
 unfold maxLen at hEl
 have hB0 : Below w.heap.size w (w.alloc (.cells n.cells 27)) := (Below.refl _ w).alloc (Nat.le_refl _) _
 have b0 := Blk.new w n.cells 27
 have HC := hide (refCheck_any n.a _ ((h.a.below hB0 (Nat.le_refl _)).mono hB0.size))
 have HL := hide (fun W (hb : Below w.heap.size w W) (hc : n.a.alg.check = 0) => isLawful_any n.a W ((h.a.below hb (Nat.le_refl _)).mono hb.size) hc)
 have Hdef : Hid (n.net.check = if n.a.alg.check ≠ 0 then n.a.alg.check else if (n.a.alg.tell [1, 2, 3, 4, 5, 6, 7]).law ≠ 0 then 4
  else if n.nodes < 1 ∨ 6 < n.nodes then 3 else firstErr n.net.linkErr n.ln) := hide rfl
 have H := hide h
 generalize n.a.alg.tell [1, 2, 3, 4, 5, 6, 7] = fb at *
 generalize n.a.alg.check = ck at *
 clear h
 simp only [NetM.val, NetM.cells, AlgM.val, Mat.val] at HC HL b0 hB0 ⊢
 go_enter Tryz.func7, Tryz.ntmps7
 go_wp2_with fail
 go_at_call 22
 refine HC.out.mono ?_
 rintro e w1 ⟨rfl, hb1⟩
 have hB1 := hB0.trans (hb1.mono hB0.size)
 have b1 := b0.below hb1 b0.lt
 clear HC hB0 b0 hb1
 by_cases hc : ck = 0
 rotate_left
 ·have hfin : Hid (n.net.check = ck) := hide (by rw [Hdef.out]; simp [hc])
  have hc' : (ck != 0) = true := by simp [hc]
  have HB := hide hB1
  clear Hdef hc HL hB1
  go_wp2
  go_ret
  exact ⟨by rw [hfin.out]; rfl, HB.out⟩
 subst hc
 have x0 := b1.cell 0
 have x1 := b1.cell 1
 have x2 := b1.cell 2
 simp at x0 x1 x2
 have HL1 := hide (HL.out w1 hB1 rfl)
 clear HL
 go_wp2_with fail
 go_at_call 23
 refine HL1.out.mono ?_
 rintro e w2 ⟨rfl, hb2⟩
 have hB2 := hB1.trans (hb2.mono hB1.size)
 have b2 := b1.below hb2 b1.lt
 clear HL1 hB1 b1 hb2 x0 x1 x2
 by_cases hl : fb.law = 0
 rotate_left
 ·have hfin : Hid (n.net.check = 4) := hide (by rw [Hdef.out]; simp [hl])
  have hl' : (fb.law == 0) = false := by simp [hl]
  have HB := hide hB2
  clear Hdef hl hB2
  rw [hl']
  go_wp2
  go_ret
  exact ⟨by rw [hfin.out]; rfl, HB.out⟩
 have hl' : (fb.law == 0) = true := by simp [hl]
 rw [hl']
 have x3 := b2.cell 3
 simp at x3
 go_wp2_with fail
 go_at_call 24
 refine (between_any _ _ _ _).mono ?_
 rintro e w' ⟨rfl, e1⟩
 have e2 := e1.symm
 subst e2
 clear e1
 by_cases hn : 1 ≤ n.nodes ∧ n.nodes ≤ 6
 rotate_left
 ·have hfin : Hid (n.net.check = 3) := hide (by
   rw [Hdef.out]
   have : n.nodes < 1 ∨ 6 < n.nodes := by omega
   simp [hl, this])
  have hn' : (decide (1 ≤ n.nodes) && decide (n.nodes ≤ 6)) = false := by simp; omega
  have HB := hide hB2
  clear Hdef hl hB2 hn
  rw [hn']
  go_wp2
  go_ret
  exact ⟨by rw [hfin.out]; rfl, HB.out⟩
 have hn' : (decide (1 ≤ n.nodes) && decide (n.nodes ≤ 6)) = true := by simp [hn]
 rw [hn']
 have Hd2 : Hid (n.net.check = firstErr n.net.linkErr n.ln) := hide (by
  rw [Hdef.out]
  have : ¬ (n.nodes < 1 ∨ 6 < n.nodes) := by omega
  simp [hl, this])
 obtain ⟨hn1, hn6⟩ := hn
 have HB2 := hide hB2
 have HN := hide (fun i W => isNode_any n i W hn1 hn6)
 simp only [NetM.val, NetM.cells, Mat.val] at HN
 clear Hdef hl hl' hn' hB2 x3
 go_wp2_with fail
 go_loopw [4, 5, 6] (fun q _ _ wr => ∃ k : Nat, k ≤ n.ln ∧ q = .int .i64 k ∧ Hid (∀ r, r < k → n.net.linkErr r = 0) ∧ Hid (Below w2.heap.size w2 wr)) (fun q _ _ _ => n.ln - (intOf q).toNat)
 case atStart => exact ⟨0, Nat.zero_le _, rfl, hide fun r hr => absurd hr (Nat.not_lt_zero _), hide (Below.refl _ _)⟩
 case round =>
  obtain ⟨k, hk, rfl, Hall, HB⟩ := hrel
  have hBw := HB2.out.trans (HB.out.mono HB2.out.size)
  have bN := b2.below HB.out b2.lt
  have x4 := bN.cell 4
  simp at x4
  by_cases hlt : k < n.ln
  ·have hla := H.out.la (by omega)
   have hI := H.out.below hBw (Nat.le_refl _)
   have c0 := hI.f k hlt
   have c1 := hI.t k hlt
   have c2 := hI.e k hlt
   have hki : (k : Int) < (n.ln : Int) := by omega
   have Herr : Hid (n.net.linkErr k ≠ 0 → n.net.check = n.net.linkErr k) := hide (fun hne => Hd2.out.trans (firstErr_at hlt Hall.out hne))
   have n0 := fun o => (bN.alloc o).cell 0
   have n1 := fun o => (bN.alloc o).cell 1
   have n2 := fun o => (bN.alloc o).cell 2
   have n3 := fun o => (bN.alloc o).cell 3
   have n4 := fun o => (bN.alloc o).cell 4
   simp at n0 n1 n2 n3 n4
   have HBa := hide (HB.out.alloc HB.out.size (.cells #[.int .i64 (n.F k), .int .i64 (n.T k), .int .i64 (n.E k)] 65))
   have HBwa := hide (hBw.alloc hBw.size (.cells #[.int .i64 (n.F k), .int .i64 (n.T k), .int .i64 (n.E k)] 65))
   have bNa := bN.alloc (.cells #[.int .i64 (n.F k), .int .i64 (n.T k), .int .i64 (n.E k)] 65)
   have bL := Blk.new wr #[.int .i64 (n.F k), .int .i64 (n.T k), .int .i64 (n.E k)] 65
   have HNk := hide (fun i W => HN.out i W)
   rw [hla] at HNk
   clear hI hBw
   go_wp2_with fail
   go_at_call 25
   refine (HNk.out _ _).mono ?_
   rintro e w3 ⟨rfl, e1⟩
   have hb3 : Below (wr.alloc (.cells #[.int .i64 (n.F k), .int .i64 (n.T k), .int .i64 (n.E k)] 65)).heap.size (wr.alloc (.cells #[.int .i64 (n.F k), .int .i64 (n.T k), .int .i64 (n.E k)] 65)) w3 := by rw [e1]; exact (Below.refl _ _).alloc (Nat.le_refl _) _
   clear e1
   have HB3 := hide (HB.out.trans ((((Below.refl _ wr).alloc (Nat.le_refl _) _).trans (hb3.mono (by simp))).mono HB.out.size))
   have b3 := bNa.below hb3 bNa.lt
   have bL3 := bL.below hb3 bL.lt
   have x0 := b3.cell 0
   have x1 := b3.cell 1
   have x2 := b3.cell 2
   have x3 := b3.cell 3
   have x4 := b3.cell 4
   have l0 := bL3.cell 0
   have l1 := bL3.cell 1
   have l2 := bL3.cell 2
   simp at x0 x1 x2 x3 x4 l0 l1 l2
   clear n0 n1 n2 n3 n4 hb3 bNa bL HBa HBwa bN
   by_cases hF : 0 ≤ n.F k ∧ n.F k ≤ n.nodes - 1
   rotate_left
   ·have hle : n.net.linkErr k = 5 := linkErr_none (Or.inl (by show n.F k < 0 ∨ n.nodes ≤ n.F k; omega))
    have hfin := hide ((Herr.out (by rw [hle]; decide)).trans hle)
    have hb : (decide (0 ≤ n.F k) && decide (n.F k ≤ n.nodes - 1)) = false := by simp; omega
    have HBf := hide (HB2.out.trans (HB3.out.mono HB2.out.size))
    rw [hb]
    clear hle hF hb
    go_wp2
    go_ret
    exact ⟨by rw [hfin.out]; rfl, HBf.out⟩
   have hb : (decide (0 ≤ n.F k) && decide (n.F k ≤ n.nodes - 1)) = true := by simp [hF]
   rw [hb]
   have HF := hide hF
   clear hb hF
   go_wp2_with fail
   go_at_call 25
   refine (HNk.out _ _).mono ?_
   rintro e w4 ⟨rfl, e1⟩
   have hb4 : Below w3.heap.size w3 w4 := by rw [e1]; exact (Below.refl _ _).alloc (Nat.le_refl _) _
   clear e1
   have HB4 := hide (HB3.out.trans (hb4.mono HB3.out.size))
   have b4 := b3.below hb4 b3.lt
   have bL4 := bL3.below hb4 bL3.lt
   clear x0 x1 x2 x3 x4 l0 l1 l2 hb4 b3 bL3 HB3
   have x2 := b4.cell 2
   have x4 := b4.cell 4
   have l0 := bL4.cell 0
   have l1 := bL4.cell 1
   have l2 := bL4.cell 2
   simp at x2 x4 l0 l1 l2
   by_cases hT : 0 ≤ n.T k ∧ n.T k ≤ n.nodes - 1
   rotate_left
   ·have hle : n.net.linkErr k = 5 := linkErr_none (Or.inr (Or.inl (by show n.T k < 0 ∨ n.nodes ≤ n.T k; omega)))
    have hfin := hide ((Herr.out (by rw [hle]; decide)).trans hle)
    have hb : (decide (0 ≤ n.T k) && decide (n.T k ≤ n.nodes - 1)) = false := by simp; omega
    have HBf := hide (HB2.out.trans (HB4.out.mono HB2.out.size))
    rw [hb]
    clear hle hT hb
    go_wp2
    go_ret
    exact ⟨by rw [hfin.out]; rfl, HBf.out⟩
   have hb : (decide (0 ≤ n.T k) && decide (n.T k ≤ n.nodes - 1)) = true := by simp [hT]
   rw [hb]
   have HT := hide hT
   clear hb hT
   go_wp2_with fail
   go_at_call 24
   refine (between_any _ _ _ _).mono ?_
   rintro e w' ⟨rfl, e1⟩
   have e2 := e1.symm
   subst e2
   clear e1
   by_cases hE : 0 ≤ n.E k ∧ n.E k ≤ (n.a.E.t.len : Int) - 1
   rotate_left
   ·have hle : n.net.linkErr k = 5 := linkErr_none (Or.inr (Or.inr (by show n.E k < 0 ∨ (n.a.E.t.len : Int) ≤ n.E k; omega)))
    have hfin := hide ((Herr.out (by rw [hle]; decide)).trans hle)
    have hb : (decide (0 ≤ n.E k) && decide (n.E k ≤ (n.a.E.t.len : Int) - 1)) = false := by simp; omega
    have HBf := hide (HB2.out.trans (HB4.out.mono HB2.out.size))
    rw [hb]
    clear hle hE hb
    go_wp2
    go_ret
    exact ⟨by rw [hfin.out]; rfl, HBf.out⟩
   have hb : (decide (0 ≤ n.E k) && decide (n.E k ≤ (n.a.E.t.len : Int) - 1)) = true := by simp [hE]
   rw [hb]
   have Hno : Hid (¬ ((n.net.F k < 0 ∨ n.net.nodes ≤ n.net.F k) ∨ (n.net.T k < 0 ∨ n.net.nodes ≤ n.net.T k) ∨ (n.net.E k < 0 ∨ (n.net.a.E.len : Int) ≤ n.net.E k))) := hide (by
    have h1 := HF.out
    have h2 := HT.out
    show ¬ ((n.F k < 0 ∨ n.nodes ≤ n.F k) ∨ (n.T k < 0 ∨ n.nodes ≤ n.T k) ∨ (n.E k < 0 ∨ (n.a.E.t.len : Int) ≤ n.E k))
    omega)
   clear hb hE
   by_cases hft : n.F k = n.T k
   ·have hle : n.net.linkErr k = 1 := by unfold Net.linkErr; rw [if_neg Hno.out, if_pos (show n.net.F k = n.net.T k from hft)]
    have hfin := hide ((Herr.out (by rw [hle]; decide)).trans hle)
    have hft' : (n.F k == n.T k) = true := by simp [hft]
    have HBf := hide (HB2.out.trans (HB4.out.mono HB2.out.size))
    clear hft hle
    go_wp2
    go_ret
    exact ⟨by rw [hfin.out]; rfl, HBf.out⟩
   have hft' : (n.F k == n.T k) = false := by simp [hft]
   have Hft := hide hft
   clear hft
   go_wp2_with fail
   obtain ⟨wq, hwq⟩ : ∃ wq, wq = wr.heap.size := ⟨_, rfl⟩
   simp only [← hwq] at bL4 l0 l1 l2 ⊢
   clear hwq x2 HNk HN
   go_loopw [6] (fun q wr => ∃ j : Nat, j ≤ k ∧ q = .int .i64 j ∧ Hid (n.net.noLink (n.net.F k) (n.net.T k) j) ∧ Hid (∃ z, wr = w4.drewN z)) (fun q _ => k - (intOf q).toNat)
   case atStart => exact ⟨0, Nat.zero_le _, rfl, hide fun r hr => absurd hr (Nat.not_lt_zero _), hide ⟨0, rfl⟩⟩
   case round =>
    obtain ⟨j, hj, rfl, Hnl, HD⟩ := hrel
    by_cases hjl : j < k
    ·have hI4 := H.out.below (HB2.out.trans (HB4.out.mono HB2.out.size)) (Nat.le_refl _)
     have d0 : wr.cell? ⟨n.lb, n.lo + j * 3, none⟩ = some (.int .i64 (n.F j)) := by obtain ⟨z, rfl⟩ := HD.out; exact hI4.f j (by omega)
     have d1 : wr.cell? ⟨n.lb, n.lo + j * 3 + 1, none⟩ = some (.int .i64 (n.T j)) := by obtain ⟨z, rfl⟩ := HD.out; exact hI4.t j (by omega)
     have y4 : wr.cell? ⟨w.heap.size, 4, none⟩ = some (.slice n.la n.ln n.lc) := by obtain ⟨z, rfl⟩ := HD.out; exact x4
     have m0 : wr.cell? ⟨wq, 0, none⟩ = some (.int .i64 (n.F k)) := by obtain ⟨z, rfl⟩ := HD.out; exact l0
     have m1 : wr.cell? ⟨wq, 1, none⟩ = some (.int .i64 (n.T k)) := by obtain ⟨z, rfl⟩ := HD.out; exact l1
     have hji : (j : Int) < (k : Int) := by omega
     have hjn : (j : Int) < (n.ln : Int) := by omega
     have HBf : Hid (Below w.heap.size w wr) := hide (by obtain ⟨z, rfl⟩ := HD.out; exact below_drewN (HB2.out.trans (HB4.out.mono HB2.out.size)) z)
     clear hI4
     by_cases hF : n.F j = n.F k
     ·have hF' : (n.F j == n.F k) = true := by simp [hF]
      by_cases hT : n.T j = n.T k
      ·have hT' : (n.T j == n.T k) = true := by simp [hT]
       have hle := Net.linkErr_six Hno.out Hft.out hjl (show n.net.F j = n.net.F k from hF) (show n.net.T j = n.net.T k from hT)
       have hfin := hide ((Herr.out (by rw [hle]; decide)).trans hle)
       clear hF hT hle
       go_wp2_with fail
       go_quiet (fail)
       go_wp2
       go_ret
       exact ⟨by rw [hfin.out]; rfl, below_drewN HBf.out _⟩
      ·have hT' : (n.T j == n.T k) = false := by simp [hT]
       have Hn : Hid (n.net.noLink (n.net.F k) (n.net.T k) (j + 1)) := hide (fun i hi => by
        by_cases e : i = j
        ·subst e; exact fun hx => hT hx.2
        ·exact Hnl.out i (by omega))
       clear hF hT
       go_wp2_with fail
       go_quiet (fail)
       go_wp2
       go_roundw
       case rel =>
        first
        | exact ⟨j + 1, by omega, by go_num, Hn, hide (by obtain ⟨m, rfl⟩ := HD.out; exact ⟨_, by rw [World.drewN_drewN]⟩)⟩
        | ((try rw [← hla]); (repeat apply Exists.intro); refine ⟨?_, rfl⟩; exact ⟨j + 1, by omega, by go_num, Hn, hide (by obtain ⟨m, rfl⟩ := HD.out; exact ⟨_, by rw [World.drewN_drewN]⟩)⟩)
       case measure => simp [intOf]; omega
     ·have hF' : (n.F j == n.F k) = false := by simp [hF]
      have Hn : Hid (n.net.noLink (n.net.F k) (n.net.T k) (j + 1)) := hide (fun i hi => by
       by_cases e : i = j
       ·subst e; exact fun hx => hF hx.1
       ·exact Hnl.out i (by omega))
      clear hF
      go_wp2_with fail
      go_quiet (fail)
      go_wp2
      go_roundw
      case rel =>
       first
       | exact ⟨j + 1, by omega, by go_num, Hn, hide (by obtain ⟨m, rfl⟩ := HD.out; exact ⟨_, by rw [World.drewN_drewN]⟩)⟩
       | ((try rw [← hla]); (repeat apply Exists.intro); refine ⟨?_, rfl⟩; exact ⟨j + 1, by omega, by go_num, Hn, hide (by obtain ⟨m, rfl⟩ := HD.out; exact ⟨_, by rw [World.drewN_drewN]⟩)⟩)
      case measure => simp [intOf]; omega
    ·have hjk : j = k := by omega
     have hle := Net.linkErr_zero Hno.out Hft.out (by rw [hjk] at Hnl; exact Hnl.out)
     have HAn : Hid (∀ r, r < k + 1 → n.net.linkErr r = 0) := hide (fun r hr => by
      by_cases e : r = k
      ·subst e; exact hle
      ·exact Hall.out r (by omega))
     have HBn : Hid (Below w2.heap.size w2 wr) := hide (by obtain ⟨z, rfl⟩ := HD.out; exact below_drewN HB4.out z)
     have hji : (k : Int) ≤ (j : Int) := by omega
     clear hle
     go_wp2
     go_roundw
     case rel =>
      first
      | exact ⟨k + 1, by omega, by go_num, HAn, HBn⟩
      | ((try rw [← hla]); (repeat apply Exists.intro); refine ⟨?_, rfl⟩; exact ⟨k + 1, by omega, by go_num, HAn, HBn⟩)
     case measure => simp [intOf]; omega
  ·have hfin := hide (Hd2.out.trans (firstErr_zero.2 (fun r (hr : r < n.ln) => Hall.out r (by omega))))
   have hki : (n.ln : Int) ≤ (k : Int) := by omega
   have HBw := hide hBw
   clear hBw
   go_wp2
   go_ret
   exact ⟨by rw [hfin.out]; rfl, HBw.out⟩

end Go.Proofs.YtjhkadffaephmabGreat

/-
 signpostref.FitOf, RouteOf, Column.
-/
namespace Go.Proofs.YtjhkadffaephmabGreat
set_option maxRecDepth 100000
open Go.RowKit

set_option maxHeartbeats 4000000 in
theorem routeOf_any (n : NetM) (i j : Nat) (ga : Option Addr) (cap b o : Nat) (f : Nat → Int) (w : World) (h : n.In w.heap.size w) (hck : n.net.check = 0) (hf : Ints ga n.net.N b o f w) (hb : b < w.heap.size) (hr : n.net.Routes f) :
  Calls Tryz.prog 65 #[n.val, .int .i64 i, .int .i64 j, .slice ga n.net.N cap] w fun e w' => e = .returned (.int .i64 (n.net.route i j f)) ∧ Below w.heap.size w w' := by
 have g := Net.good_of_check hck
 have lo := g.lo
 have hi6 := g.hi
 have hs0 : 2 ≤ n.a.size := g.law.good.lo
 have hs1 : n.a.size ≤ 24 := g.law.good.hi
 obtain ⟨N, hN⟩ : ∃ N : Nat, n.nodes = N := ⟨n.nodes.toNat, by have : n.net.nodes = n.nodes := rfl; omega⟩
 have hNN : n.net.N = N := by show n.nodes.toNat = N; omega
 have hN6 : N ≤ 6 := by have : n.net.nodes = n.nodes := rfl; omega
 have hN1 : 1 ≤ N := by have : n.net.nodes = n.nodes := rfl; omega
 rw [hNN] at hf ⊢
 have hga := hf.addr (by omega)
 subst hga
 have hcells : n.cells = #[.int .i64 n.a.size, .slice n.a.B.ga n.a.B.t.len n.a.B.cap, .slice n.a.E.ga n.a.E.t.len n.a.E.cap, .int .i64 N, .slice n.la n.ln n.lc] := by simp only [NetM.cells, Mat.val, hN]
 have hB0 : Below w.heap.size w (w.alloc (.cells n.cells 27)) := (Below.refl _ w).alloc (Nat.le_refl _) _
 have b0 := Blk.new w n.cells 27
 have HE := hide (fun (k : Nat) W (hb : Below w.heap.size w W) => edgeOf_any n i k W (h.grown hb))
 have HO := hide (n.net.out_spec g hr i j)
 have G := hide g
 have H := hide h
 have HR := hide hr
 have HF := hide hf
 have HNN := hide hNN
 have Hout0 : Hid (n.net.out i j f 0 = if i = j then 0 else n.a.size - 1) := hide rfl
 have Hroute : Hid (n.net.route i j f = n.net.out i j f N) := hide (by unfold Net.route; rw [hNN])
 simp only [NetM.val, hcells] at HE ⊢
 rw [hcells] at hB0 b0
 have Hcells := hide hcells
 obtain ⟨W0, hW0⟩ : ∃ W0, W0 = w.alloc (.cells #[.int .i64 n.a.size, .slice n.a.B.ga n.a.B.t.len n.a.B.cap, .slice n.a.E.ga n.a.E.t.len n.a.E.cap, .int .i64 N, .slice n.la n.ln n.lc] 27) := ⟨_, rfl⟩
 have B0 : Hid (Below w.heap.size w W0) := hide (by rw [hW0]; exact hB0)
 have Hb0 : Hid (Blk W0 w.heap.size #[.int .i64 n.a.size, .slice n.a.B.ga n.a.B.t.len n.a.B.cap, .slice n.a.E.ga n.a.E.t.len n.a.E.cap, .int .i64 N, .slice n.la n.ln n.lc] 27) := hide (by rw [hW0]; exact b0)
 clear hN hcells h hck hNN lo hi6 g hB0 b0 hr hf
 have key : ∃ v : Int, v = n.net.out i j f 0 ∧ ((i = j ∧ v = 0) ∨ (i ≠ j ∧ v = n.a.size - 1)) := by
  by_cases e : i = j
  ·exact ⟨_, rfl, Or.inl ⟨e, by rw [Hout0.out, if_pos e]⟩⟩
  ·exact ⟨_, rfl, Or.inr ⟨e, by rw [Hout0.out, if_neg e]⟩⟩
 obtain ⟨v0, hv0, hcase⟩ := key
 have Hv0 := hide hv0
 clear hv0 Hout0
 rcases hcase with ⟨hij, hv⟩ | ⟨hij, hv⟩
 all_goals
  first
  | (have hij' : ((i : Int) == (j : Int)) = true := by simp [hij])
  | (have hij' : ((i : Int) == (j : Int)) = false := by simp; omega)
  have Hv := hide hv
  clear hij hv
  go_enter Tryz.func65, Tryz.ntmps65
  go_wp2_with fail
  rw [← hW0]
  clear hW0
  go_loopw [9, 10, 11] (fun s q _ wr => ∃ k : Nat, k ≤ N ∧ q = .int .i64 k ∧ s = .int .i64 (n.net.out i j f k) ∧ Hid (Below W0.heap.size W0 wr)) (fun _ q _ _ => N - (intOf q).toNat)
  case atStart => exact ⟨0, Nat.zero_le _, rfl, by rw [← Hv0.out, Hv.out], hide (Below.refl _ _)⟩
  case round =>
   obtain ⟨k, hk, rfl, rfl, HB⟩ := hrel
   have bN := Hb0.out.below HB.out Hb0.out.lt
   have x0 := bN.cell 0
   have x1 := bN.cell 1
   have x2 := bN.cell 2
   have x3 := bN.cell 3
   have x4 := bN.cell 4
   simp at x0 x1 x2 x3 x4
   have hBw := B0.out.trans (HB.out.mono B0.out.size)
   by_cases hlt : k < N
   ·have hki : (k : Int) < (N : Int) := by omega
    have HE1 := hide (HE.out k wr hBw)
    clear hBw
    go_wp2_with fail
    go_at_call 30
    refine HE1.out.mono ?_
    rintro e w3 ⟨rfl, e1⟩
    have hb3 : Below wr.heap.size wr w3 := by rw [e1]; exact (Below.refl _ _).alloc (Nat.le_refl _) _
    have HB3 := hide (HB.out.trans (hb3.mono HB.out.size))
    have b3 := bN.below hb3 bN.lt
    clear x0 x1 x2 x3 x4 bN HE1 hb3 e1
    by_cases hed : 0 ≤ n.net.edge i k
    ·have hnext : n.net.out i j f (k + 1) = n.net.a.B.get (n.net.out i j f k) (n.net.a.E.get (n.net.edge i k) (f k)) := by rw [Net.out, if_pos hed]
     have hkN : k < n.net.N := by rw [HNN.out]; exact hlt
     have hel := n.net.edge_lt G.out i k
     obtain ⟨ke, hke⟩ : ∃ ke : Nat, n.net.edge i k = ke := ⟨(n.net.edge i k).toNat, by omega⟩
     obtain ⟨hv, hhv⟩ : ∃ hv : Nat, f k = hv := ⟨(f k).toNat, by have := (HR.out k hkN).1; omega⟩
     have hke8 : ke < n.a.E.t.len := by have e2 : n.net.a.E.len = n.a.E.t.len := rfl; omega
     have hEL : hv < n.a.E.t.L ke := by
      have e1 := G.out.law.good.ew ke hke8
      have e2 := (HR.out k hkN).2
      have e3 : n.net.a.E.L ke = n.a.E.t.L ke := rfl
      omega
     have hEz := G.out.law.good.ez ke hke8 hv hEL
     obtain ⟨mv, hmv⟩ : ∃ mv : Nat, n.a.E.t.Z ke hv = mv := ⟨(n.a.E.t.Z ke hv).toNat, by have := hEz.1; have e3 : n.net.a.E.Z ke hv = n.a.E.t.Z ke hv := rfl; omega⟩
     have hL := (HO.out k (by omega)).1
     obtain ⟨bv, hbv⟩ : ∃ bv : Nat, n.net.out i j f k = bv := ⟨(n.net.out i j f k).toNat, by omega⟩
     have hsz : n.net.a.size = n.a.size := rfl
     have hBl : bv < n.a.B.t.len := by
      have e1 := G.out.law.good.bl
      have e3 : n.net.a.B.len = n.a.B.t.len := rfl
      omega
     have hBL : mv < n.a.B.t.L bv := by
      have e1 := G.out.law.good.bw bv hBl
      have e3 : n.net.a.B.L bv = n.a.B.t.L bv := rfl
      have e4 : n.net.a.E.Z ke hv = n.a.E.t.Z ke hv := rfl
      omega
     have Hn : Hid (n.net.out i j f (k + 1) = n.a.B.t.Z bv mv) := hide (by
      rw [hnext, hbv, hke, hhv]
      show n.a.B.t.get bv (n.a.E.t.get ke hv) = _
      simp only [Tab.get, Int.toNat_natCast, hmv])
     have hI3 := H.out.below (B0.out.trans (HB3.out.mono B0.out.size)) (Nat.le_refl _)
     obtain ⟨a1, a2, a3⟩ := hI3.a.E.at hke8 hEL
     obtain ⟨d1, d2, d3⟩ := hI3.a.B.at hBl hBL
     rw [hmv] at a3
     have hc := (HF.out.below (B0.out.trans (HB3.out.mono B0.out.size)) (fun _ => hb)).cell k hlt
     rw [hhv] at hc
     have x1 := b3.cell 1
     have x2 := b3.cell 2
     simp at x1 x2
     have hei : (ke : Int) < (n.a.E.t.len : Int) := by omega
     have hvi : (hv : Int) < (n.a.E.t.L ke : Int) := by omega
     have hbi : (bv : Int) < (n.a.B.t.len : Int) := by omega
     have hmi : (mv : Int) < (n.a.B.t.L bv : Int) := by omega
     rw [hbv, hke]
     clear hnext hhv hmv hL hEz hbv hke hel hed hI3 b3
     go_wp2_with fail
     go_quiet (fail)
     go_wp2
     go_roundw
     case rel =>
      first
      | exact ⟨k + 1, by omega, by go_num, by rw [Hn.out], hide (below_drewN HB3.out _)⟩
      | ((try rw [← a1]); (try rw [← d1]); (repeat apply Exists.intro); refine ⟨?_, rfl⟩; exact ⟨k + 1, by omega, by go_num, by rw [Hn.out], hide (below_drewN HB3.out _)⟩)
     case measure => simp [intOf]; omega
    ·have hnext : n.net.out i j f (k + 1) = n.net.out i j f k := by rw [Net.out, if_neg hed]
     have Hn := hide hnext
     have hed' : n.net.edge i k < 0 := by omega
     generalize n.net.edge i k = ed at *
     clear hnext hed b3
     go_wp2
     go_roundw
     case rel =>
      first
      | exact ⟨k + 1, by omega, by go_num, by rw [Hn.out], HB3⟩
      | ((repeat apply Exists.intro); refine ⟨?_, rfl⟩; exact ⟨k + 1, by omega, by go_num, by rw [Hn.out], HB3⟩)
     case measure => simp [intOf]; omega
   ·have hkn : k = N := by omega
    have hki : (N : Int) ≤ (k : Int) := by omega
    subst hkn
    have HBw := hide hBw
    clear hBw
    go_wp2
    go_ret
    exact ⟨by rw [Hroute.out]; rfl, HBw.out⟩

end Go.Proofs.YtjhkadffaephmabGreat

/-
 signpostref.PathsOf.
-/
namespace Go.Proofs.YtjhkadffaephmabGreat
set_option maxRecDepth 100000
open Go.RowKit

section
variable {n : Net} {S : List Int → Prop} {C l : Nat} {xs : List Int} {k : Int} {B : Mat} {rn : Nat} {vs : List Value} {W W' : World}

end

/-- append, by what its run comes to. -/
theorem wp_append_run {P : Program} {o : Oper} {a : Act} {w : World} {K : Act → World → Prop} {Q : Exit → Act → World → Prop}
  (hg : o.guard = none) (s x : Operand) (t : TypeId) (hop : o.op = Op.call { callee := Callee.builtin Builtin.append, args := #[s, x], argTypes := #[t, t] })
  (sv xv : Value) (hs : a.eval s = sv) (hx : a.eval x = xv) (v' : Value) (w' : World) (hrun : (Builtin.append_ #[t, t] o.type #[sv, xv]).run P w = .ok v' w') (hK : K (a.put o.dst v') w') : Oper.wp P o a w K Q := by
 have := step_append_run (ops := #[]) (E := False) (Q := Q) hg s x t hop sv xv hs hx v' w' hrun hK
 have hw : Region.wanted o (yielded #[] a.tmps) = true := by simp [Region.wanted, hg]
 rw [if_pos hw] at this
 exact this

end Go.Proofs.YtjhkadffaephmabGreat

/-
 path.best; slices.Clone of any row; path.copied.
-/
namespace Go.Proofs.YtjhkadffaephmabGreat
set_option maxRecDepth 100000
open Go.RowKit

theorem append_zero (w : World) (ty : TypeId) (g : Nat) (ad : Option Addr) (q : Nat) :
  (Builtin.append_ #[32, 32] ty #[.slice (some ⟨g, 0, none⟩) 0 0, .slice ad 0 q]).run Tryz.prog w = .ok (.slice (some ⟨g, 0, none⟩) 0 0) w := by
 obtain ⟨i1, hi1, hy0, hy1, hy2⟩ := info_parts Tryz.infoInt
 cases ad <;> simp [Builtin.append_, run_underlying Tryz.underlying32, sizeOf, typeInfo, hi1, Builtin.lenOf, Builtin.firstCells, storeCells, loadCells, loadCellsFrom]

set_option maxHeartbeats 1000000 in
theorem clone_none (a : Option Addr) (q : Nat) (w : World) :
  Calls Tryz.prog 43 #[.slice a 0 q] w fun e w' => ∃ (a' : Option Addr) (c : Nat), e = .returned (.slice a' 0 c) ∧ Below w.heap.size w w' := by
 have HB := hide ((Below.refl w.heap.size w).alloc (Nat.le_refl _) (.cells #[] 3))
 cases a with
 | none =>
  have hnil := Lib.run_eql_slice_nil (P := Tryz.prog) w 32 3 none 0 q 0 0 Tryz.underlying32
  go_enter Tryz.func43, Tryz.ntmps43
  go_wp2
  go_ret
  exact ⟨none, 0, rfl, Below.refl _ _⟩
 | some ad =>
  have hnil := Lib.run_eql_slice_nil (P := Tryz.prog) w 32 3 (some ad) 0 q 0 0 Tryz.underlying32
  go_enter Tryz.func43, Tryz.ntmps43
  go_wp2_with (at_builtin; refine Lib.wpList_append_run _ rfl _ _ _ _ rfl _ _ rfl rfl _ _ (append_zero _ _ _ _ _) ?_)
  go_ret
  exact ⟨_, _, rfl, HB.out⟩

theorem clone_all (a : Option Addr) (p q b o : Nat) (f : Nat → Int) (w : World) (h : Ints a p b o f w) (hp1 : p ≤ 100) (hb : 0 < p → b < w.heap.size) :
  Calls Tryz.prog 43 #[.slice a p q] w fun e w' => (∃ (a' : Option Addr) (c b' : Nat), e = .returned (.slice a' p c) ∧ Ints a' p b' 0 f w' ∧ (0 < p → w.heap.size ≤ b' ∧ b' < w'.heap.size)) ∧ Below w.heap.size w w' := by
 by_cases hp : 0 < p
 ·refine (clone_any a p q b o f w h hp hp1 (hb hp)).mono ?_
  rintro e w' ⟨g, c, rfl, h1, h2, h3, h4⟩
  exact ⟨⟨some ⟨g, 0, none⟩, c, g, rfl, ⟨fun _ => rfl, fun i hi => by rw [Nat.zero_add]; exact h4 i hi, h.len⟩, fun _ => ⟨h2, h3⟩⟩, h1⟩
 ·obtain rfl : p = 0 := by omega
  refine (clone_none a q w).mono ?_
  rintro e w' ⟨a', c, rfl, hb'⟩
  exact ⟨⟨a', c, 0, rfl, ⟨fun h0 => absurd h0 (Nat.lt_irrefl _), fun i hi => absurd hi (Nat.not_lt_zero _), h.len⟩, fun h0 => absurd h0 (Nat.lt_irrefl _)⟩, hb'⟩

end Go.Proofs.YtjhkadffaephmabGreat
