/-
  Our own texts, bundled: a claim holds few files.
-/
import Derived.Test.YtjhkadffaephmabBundleEF
import Derived.Test.YtjhkadffaephmabBundleBG
import Derived.Test.YtjhkadffaephmabBundleAG
/-
  slices.Contains; path.invalid, path.best.
-/
namespace Go.Proofs.Ytjhkadffaephmab
set_option maxRecDepth 100000
open Go.RowKit

set_option maxHeartbeats 1000000 in
theorem index_ints (a : Option Addr) (l q b o : Nat) (f : Nat → Int) (c : Int) (w : World) (h : Ints a l b o f w) :
    Calls Try.prog 195 #[.slice a l q, .int .i64 c] w fun e w' => (∃ r : Int, e = .returned (.int .i64 r) ∧ decide (0 ≤ r) = decide (c ∈ listOf l f)) ∧ w' = w := by
  have hlen := h.len
  unfold maxLen at hlen
  have H := hide h
  obtain ⟨mv, hmv⟩ : ∃ mv, mv = decide (c ∈ listOf l f) := ⟨_, rfl⟩
  rw [← hmv]
  have Hmv := hide hmv
  clear h hmv
  go_enter Try.func195, Try.ntmps195
  go_wp2
  go_loop [5, 8] (fun _ i => ∃ k : Nat, k ≤ l ∧ i = .int .i64 k ∧ Hid (∀ r, r < k → f r ≠ c)) (fun _ i => l - (intOf i).toNat)
  case atStart => exact ⟨0, Nat.zero_le _, rfl, hide (fun r hr => absurd hr (Nat.not_lt_zero _))⟩
  case round =>
    obtain ⟨k, hk, rfl, Hall⟩ := hrel
    by_cases hlt : k < l
    · have ha := H.out.addr (by omega)
      have hc := H.out.cell k hlt
      have hki : (k : Int) < (l : Int) := by omega
      by_cases e : f k = c
      · have e' : (c == f k) = true := by simp [e]
        have Hw : Hid (mv = true) := hide (by rw [Hmv.out, decide_eq_true_eq, listOf_mem]; exact ⟨k, hlt, e.symm⟩)
        clear e
        go_wp2
        go_ret
        exact ⟨⟨(k : Int), rfl, by rw [Hw.out]; simp⟩, rfl⟩
      · have e' : (c == f k) = false := by simp; exact fun h => e h.symm
        have Hn : Hid (∀ r, r < k + 1 → f r ≠ c) := hide (fun r hr => by
          by_cases e1 : r = k
          · subst e1; exact e
          · exact Hall.out r (by omega))
        clear e
        go_wp2
        go_round
        case rel =>
          first
          | exact ⟨k + 1, by omega, by go_num, Hn⟩
          | ((try rw [← ha]); (repeat apply Exists.intro); refine ⟨?_, rfl⟩; exact ⟨k + 1, by omega, by go_num, Hn⟩)
        case measure => simp [intOf]; omega
    · have hki : (l : Int) ≤ (k : Int) := by omega
      have Hw : Hid (mv = false) := hide (by
        rw [Hmv.out, decide_eq_false_iff_not, listOf_mem]
        rintro ⟨i, hi, e⟩
        exact Hall.out i (by omega) e.symm)
      go_wp2
      go_ret
      exact ⟨⟨-1, rfl, by rw [Hw.out]; rfl⟩, rfl⟩

set_option maxHeartbeats 1000000 in
theorem contains_ints (a : Option Addr) (l q b o : Nat) (f : Nat → Int) (c : Int) (w : World) (h : Ints a l b o f w) :
    Calls Try.prog 161 #[.slice a l q, .int .i64 c] w fun e w' => e = .returned (.bool (decide (c ∈ listOf l f))) ∧ w' = w := by
  have H := hide (index_ints a l q b o f c w h)
  clear h
  go_enter Try.func161, Try.ntmps161
  go_wp2_with fail
  go_at_call 195
  refine H.out.mono ?_
  rintro e w1 ⟨⟨r, rfl, hr⟩, rfl⟩
  have HR := hide hr
  clear hr
  go_wp2
  go_ret
  exact ⟨by rw [← HR.out]; rfl, rfl⟩

set_option maxHeartbeats 1000000 in
theorem invalid_any (n : NetM) (w : World) (h2 : 2 ≤ n.a.size) (h24 : n.a.size ≤ 24) :
    Calls Try.prog 162 #[n.val] w fun e w' => e = .returned (.agg #[.int .i64 (n.a.size - 1), .slice none 0 0]) ∧ Below w.heap.size w w' := by
  have HB := hide ((((Below.refl w.heap.size w).alloc (Nat.le_refl _) (.cells n.cells 41)).alloc (by simp) (.cells #[.int .i64 (n.a.size - 1), .slice none 0 0] 71)))
  simp only [NetM.val, NetM.cells, Mat.val] at HB ⊢
  go_enter Try.func162, Try.ntmps162
  go_wp2
  exact bodyPost_ret (v := .agg #[.int .i64 (n.a.size - 1), .slice none 0 0]) (by simp [results, Try.results162, go_sem]) rfl ⟨rfl, HB.out⟩

end Go.Proofs.Ytjhkadffaephmab

/-
  path.best; slices.Clone of any row; path.copied.
-/
namespace Go.Proofs.Ytjhkadffaephmab
set_option maxRecDepth 100000
open Go.RowKit

/-- What of two is taken, where it lies. -/
def Net.bestM (n : Net) (a b : RtM) : RtM := if n.ahead b.rt a.rt = true then b else a
theorem Net.bestM_rt (n : Net) (a b : RtM) : (n.bestM a b).rt = n.bestR a.rt b.rt := by
  unfold Net.bestM Net.bestR
  split <;> rfl

set_option maxHeartbeats 2000000 in
theorem bestP_any (n : NetM) (a b : RtM) (w : World) (h : n.In w.heap.size w) (hck : n.net.check = 0) (ha : a.In w.heap.size w) (hb : b.In w.heap.size w) (ha0 : 0 ≤ a.w) (ha1 : a.w < n.a.size) (hb0 : 0 ≤ b.w) (hb1 : b.w < n.a.size) :
    Calls Try.prog 93 #[n.val, a.val, b.val] w fun e w' => e = .returned (n.net.bestM a b).val ∧ Below w.heap.size w w' := by
  obtain ⟨W1, hW1⟩ : ∃ W1, W1 = (((w.alloc (.cells n.cells 41)).alloc (.cells a.cells 71)).alloc (.cells b.cells 71)).alloc (.cells #[.int .i64 0, .slice none 0 0] 71) := ⟨_, rfl⟩
  have hB1 : Below w.heap.size w W1 := by rw [hW1]; exact ((((Below.refl _ w).alloc (Nat.le_refl _) _).alloc (by simp) _).alloc (by simp; omega) _).alloc (by simp; omega) _
  have ba : Blk W1 (w.heap.size + 1) a.cells 71 := by rw [hW1]; exact ((show Blk _ (w.heap.size + 1) a.cells 71 by simpa using Blk.new (w.alloc (.cells n.cells 41)) a.cells 71).alloc _).alloc _
  have bb : Blk W1 (w.heap.size + 1 + 1) b.cells 71 := by rw [hW1]; exact (show Blk _ (w.heap.size + 1 + 1) b.cells 71 by simpa using Blk.new ((w.alloc (.cells n.cells 41)).alloc (.cells a.cells 71)) b.cells 71).alloc _
  have bo : Blk W1 (w.heap.size + 1 + 1 + 1) #[.int .i64 0, .slice none 0 0] 71 := by rw [hW1]; simpa using Blk.new (((w.alloc (.cells n.cells 41)).alloc (.cells a.cells 71)).alloc (.cells b.cells 71)) #[.int .i64 0, .slice none 0 0] 71
  have HA := hide (ahead_any n b a W1 (h.grown hB1) hck (hb.grown hB1) (ha.grown hB1) hb0 hb1 ha0 ha1)
  have Hd : Hid (n.net.bestM a b = if n.net.ahead b.rt a.rt = true then b else a) := hide rfl
  generalize n.net.ahead b.rt a.rt = av at *
  generalize n.net.bestM a b = rs at *
  have HB1 := hide hB1
  have Hba := hide ba
  have Hbb := hide bb
  have Hbo := hide bo
  simp only [NetM.val, NetM.cells, Mat.val, RtM.val, RtM.cells] at hW1 HA ⊢
  clear hB1 ba bb bo h ha hb hck ha0 ha1 hb0 hb1
  have HW1 := hide hW1
  rw [hW1] at HA
  clear hW1
  go_enter Try.func93, Try.ntmps93
  go_wp2_with fail
  go_at_call 160
  refine HA.out.mono ?_
  rw [← HW1.out]
  rintro e w2 ⟨rfl, hb2⟩
  have hB2 := HB1.out.trans (hb2.mono HB1.out.size)
  have ba2 := Hba.out.below hb2 Hba.out.lt
  have bb2 := Hbb.out.below hb2 Hbb.out.lt
  have bo2 := Hbo.out.below hb2 Hbo.out.lt
  have y0 := ba2.cell 0
  have y1 := ba2.cell 1
  have z0 := bb2.cell 0
  have z1 := bb2.cell 1
  have o0 := bo2.cell 0
  have o1 := bo2.cell 1
  have of0 := bo2.frozen 0
  have of1 := bo2.frozen 1
  simp [RtM.cells] at y0 y1 z0 z1 o0 o1
  cases av with
  | true =>
    have hr : rs = b := by rw [Hd.out, if_pos rfl]
    subst hr
    have HB3 := hide ((hB2.setCell (p := ⟨w.heap.size + 1 + 1 + 1, 0, none⟩) (by show w.heap.size ≤ w.heap.size + 1 + 1 + 1; omega) (.int .i64 rs.w)).setCell (p := ⟨w.heap.size + 1 + 1 + 1, 1, none⟩) (by show w.heap.size ≤ w.heap.size + 1 + 1 + 1; omega) (.slice rs.pa rs.l rs.q))
    have b3 := bo2.set2 (.int .i64 rs.w) (.slice rs.pa rs.l rs.q)
    have e0 := b3.cell 0
    have e1 := b3.cell 1
    simp at e0 e1
    clear hB2 hb2 ba2 bb2 bo2 HA HB1 Hba Hbb Hbo HW1 b3
    go_wp2
    exact bodyPost_ret (v := .agg #[.int .i64 rs.w, .slice rs.pa rs.l rs.q]) (by simp [results, Try.results93, go_sem, e0, e1]) rfl ⟨rfl, HB3.out⟩
  | false =>
    have hr : rs = a := by rw [Hd.out, if_neg (by simp)]
    subst hr
    have HB3 := hide ((hB2.setCell (p := ⟨w.heap.size + 1 + 1 + 1, 0, none⟩) (by show w.heap.size ≤ w.heap.size + 1 + 1 + 1; omega) (.int .i64 rs.w)).setCell (p := ⟨w.heap.size + 1 + 1 + 1, 1, none⟩) (by show w.heap.size ≤ w.heap.size + 1 + 1 + 1; omega) (.slice rs.pa rs.l rs.q))
    have b3 := bo2.set2 (.int .i64 rs.w) (.slice rs.pa rs.l rs.q)
    have e0 := b3.cell 0
    have e1 := b3.cell 1
    simp at e0 e1
    clear hB2 hb2 ba2 bb2 bo2 HA HB1 Hba Hbb Hbo HW1 b3
    go_wp2
    exact bodyPost_ret (v := .agg #[.int .i64 rs.w, .slice rs.pa rs.l rs.q]) (by simp [results, Try.results93, go_sem, e0, e1]) rfl ⟨rfl, HB3.out⟩

theorem append_zero (w : World) (ty : TypeId) (g : Nat) (ad : Option Addr) (q : Nat) :
    (Builtin.append_ #[22, 22] ty #[.slice (some ⟨g, 0, none⟩) 0 0, .slice ad 0 q]).run Try.prog w = .ok (.slice (some ⟨g, 0, none⟩) 0 0) w := by
  obtain ⟨i1, hi1, hy0, hy1, hy2⟩ := info_parts Try.infoInt
  cases ad <;> simp [Builtin.append_, run_underlying Try.underlying22, sizeOf, typeInfo, hi1, Builtin.lenOf, Builtin.firstCells, storeCells, loadCells, loadCellsFrom]

set_option maxHeartbeats 1000000 in
theorem clone_none (a : Option Addr) (q : Nat) (w : World) :
    Calls Try.prog 139 #[.slice a 0 q] w fun e w' => ∃ (a' : Option Addr) (c : Nat), e = .returned (.slice a' 0 c) ∧ Below w.heap.size w w' := by
  have HB := hide ((Below.refl w.heap.size w).alloc (Nat.le_refl _) (.cells #[] 3))
  cases a with
  | none =>
    have hnil := Lib.run_eql_slice_nil (P := Try.prog) w 22 3 none 0 q 0 0 Try.underlying22
    go_enter Try.func139, Try.ntmps139
    go_wp2
    go_ret
    exact ⟨none, 0, rfl, Below.refl _ _⟩
  | some ad =>
    have hnil := Lib.run_eql_slice_nil (P := Try.prog) w 22 3 (some ad) 0 q 0 0 Try.underlying22
    go_enter Try.func139, Try.ntmps139
    go_wp2_with (at_builtin; refine Lib.wpList_append_run _ rfl _ _ _ _ rfl _ _ rfl rfl _ _ (append_zero _ _ _ _ _) ?_)
    go_ret
    exact ⟨_, _, rfl, HB.out⟩

theorem clone_all (a : Option Addr) (p q b o : Nat) (f : Nat → Int) (w : World) (h : Ints a p b o f w) (hp1 : p ≤ 100) (hb : 0 < p → b < w.heap.size) :
    Calls Try.prog 139 #[.slice a p q] w fun e w' => (∃ (a' : Option Addr) (c b' : Nat), e = .returned (.slice a' p c) ∧ Ints a' p b' 0 f w' ∧ (0 < p → w.heap.size ≤ b' ∧ b' < w'.heap.size)) ∧ Below w.heap.size w w' := by
  by_cases hp : 0 < p
  · refine (clone_any a p q b o f w h hp hp1 (hb hp)).mono ?_
    rintro e w' ⟨g, c, rfl, h1, h2, h3, h4⟩
    exact ⟨⟨some ⟨g, 0, none⟩, c, g, rfl, ⟨fun _ => rfl, fun i hi => by rw [Nat.zero_add]; exact h4 i hi, h.len⟩, fun _ => ⟨h2, h3⟩⟩, h1⟩
  · obtain rfl : p = 0 := by omega
    refine (clone_none a q w).mono ?_
    rintro e w' ⟨a', c, rfl, hb'⟩
    exact ⟨⟨a', c, 0, rfl, ⟨fun h0 => absurd h0 (Nat.lt_irrefl _), fun i hi => absurd hi (Nat.not_lt_zero _), h.len⟩, fun h0 => absurd h0 (Nat.lt_irrefl _)⟩, hb'⟩

end Go.Proofs.Ytjhkadffaephmab
