/-
  Our own texts, bundled: a claim holds few files.
-/
import Derived.Test.YtjhkadffaephmabBundleEF
import Derived.Test.YtjhkadffaephmabBundleBG
import Derived.Test.YtjhkadffaephmabBundleAG
import Derived.Test.YtjhkadffaephmabBundleAJ
import Derived.Lib.AppendZerosOnto
/-
  slices.Contains; path.invalid, path.best.
-/
namespace Go.Proofs.Ytjhkadffaephmab
set_option maxRecDepth 100000
open Go.RowKit

set_option maxHeartbeats 1000000 in
theorem index_ints (a : Option Addr) (l q b o : Nat) (f : Nat → Int) (c : Int) (w : World) (h : Ints a l b o f w) :
    Calls Try.prog 195 #[.slice a l q, .int .i64 c] w fun e w' => (∃ r : Int, e = .returned (.int .i64 r) ∧ decide (0 ≤ r) = decide (c ∈ listOf l f)) ∧ w' = w := by
  have hlen := h.len
  unfold maxLen at hlen
  have H := hide h
  obtain ⟨mv, hmv⟩ : ∃ mv, mv = decide (c ∈ listOf l f) := ⟨_, rfl⟩
  rw [← hmv]
  have Hmv := hide hmv
  clear h hmv
  go_enter Try.func195, Try.ntmps195
  go_wp2
  go_loop [5, 8] (fun _ i => ∃ k : Nat, k ≤ l ∧ i = .int .i64 k ∧ Hid (∀ r, r < k → f r ≠ c)) (fun _ i => l - (intOf i).toNat)
  case atStart => exact ⟨0, Nat.zero_le _, rfl, hide (fun r hr => absurd hr (Nat.not_lt_zero _))⟩
  case round =>
    obtain ⟨k, hk, rfl, Hall⟩ := hrel
    by_cases hlt : k < l
    · have ha := H.out.addr (by omega)
      have hc := H.out.cell k hlt
      have hki : (k : Int) < (l : Int) := by omega
      by_cases e : f k = c
      · have e' : (c == f k) = true := by simp [e]
        have Hw : Hid (mv = true) := hide (by rw [Hmv.out, decide_eq_true_eq, listOf_mem]; exact ⟨k, hlt, e.symm⟩)
        clear e
        go_wp2
        go_ret
        exact ⟨⟨(k : Int), rfl, by rw [Hw.out]; simp⟩, rfl⟩
      · have e' : (c == f k) = false := by simp; exact fun h => e h.symm
        have Hn : Hid (∀ r, r < k + 1 → f r ≠ c) := hide (fun r hr => by
          by_cases e1 : r = k
          · subst e1; exact e
          · exact Hall.out r (by omega))
        clear e
        go_wp2
        go_round
        case rel =>
          first
          | exact ⟨k + 1, by omega, by go_num, Hn⟩
          | ((try rw [← ha]); (repeat apply Exists.intro); refine ⟨?_, rfl⟩; exact ⟨k + 1, by omega, by go_num, Hn⟩)
        case measure => simp [intOf]; omega
    · have hki : (l : Int) ≤ (k : Int) := by omega
      have Hw : Hid (mv = false) := hide (by
        rw [Hmv.out, decide_eq_false_iff_not, listOf_mem]
        rintro ⟨i, hi, e⟩
        exact Hall.out i (by omega) e.symm)
      go_wp2
      go_ret
      exact ⟨⟨-1, rfl, by rw [Hw.out]; rfl⟩, rfl⟩

set_option maxHeartbeats 1000000 in
theorem contains_ints (a : Option Addr) (l q b o : Nat) (f : Nat → Int) (c : Int) (w : World) (h : Ints a l b o f w) :
    Calls Try.prog 161 #[.slice a l q, .int .i64 c] w fun e w' => e = .returned (.bool (decide (c ∈ listOf l f))) ∧ w' = w := by
  have H := hide (index_ints a l q b o f c w h)
  clear h
  go_enter Try.func161, Try.ntmps161
  go_wp2_with fail
  go_at_call 195
  refine H.out.mono ?_
  rintro e w1 ⟨⟨r, rfl, hr⟩, rfl⟩
  have HR := hide hr
  clear hr
  go_wp2
  go_ret
  exact ⟨by rw [← HR.out]; rfl, rfl⟩

set_option maxHeartbeats 1000000 in
theorem invalid_any (n : NetM) (w : World) (h2 : 2 ≤ n.a.size) (h24 : n.a.size ≤ 24) :
    Calls Try.prog 162 #[n.val] w fun e w' => e = .returned (.agg #[.int .i64 (n.a.size - 1), .slice none 0 0]) ∧ Below w.heap.size w w' := by
  have HB := hide ((((Below.refl w.heap.size w).alloc (Nat.le_refl _) (.cells n.cells 41)).alloc (by simp) (.cells #[.int .i64 (n.a.size - 1), .slice none 0 0] 71)))
  simp only [NetM.val, NetM.cells, Mat.val] at HB ⊢
  go_enter Try.func162, Try.ntmps162
  go_wp2
  exact bodyPost_ret (v := .agg #[.int .i64 (n.a.size - 1), .slice none 0 0]) (by simp [results, Try.results162, go_sem]) rfl ⟨rfl, HB.out⟩

end Go.Proofs.Ytjhkadffaephmab

/-
  path.best; slices.Clone of any row; path.copied.
-/
namespace Go.Proofs.Ytjhkadffaephmab
set_option maxRecDepth 100000
open Go.RowKit

/-- What of two is taken, where it lies. -/
def Net.bestM (n : Net) (a b : RtM) : RtM := if n.ahead b.rt a.rt = true then b else a
theorem Net.bestM_rt (n : Net) (a b : RtM) : (n.bestM a b).rt = n.bestR a.rt b.rt := by
  unfold Net.bestM Net.bestR
  split <;> rfl

set_option maxHeartbeats 2000000 in
theorem bestP_any (n : NetM) (a b : RtM) (w : World) (h : n.In w.heap.size w) (hck : n.net.check = 0) (ha : a.In w.heap.size w) (hb : b.In w.heap.size w) (ha0 : 0 ≤ a.w) (ha1 : a.w < n.a.size) (hb0 : 0 ≤ b.w) (hb1 : b.w < n.a.size) :
    Calls Try.prog 93 #[n.val, a.val, b.val] w fun e w' => e = .returned (n.net.bestM a b).val ∧ Below w.heap.size w w' := by
  obtain ⟨W1, hW1⟩ : ∃ W1, W1 = (((w.alloc (.cells n.cells 41)).alloc (.cells a.cells 71)).alloc (.cells b.cells 71)).alloc (.cells #[.int .i64 0, .slice none 0 0] 71) := ⟨_, rfl⟩
  have hB1 : Below w.heap.size w W1 := by rw [hW1]; exact ((((Below.refl _ w).alloc (Nat.le_refl _) _).alloc (by simp) _).alloc (by simp; omega) _).alloc (by simp; omega) _
  have ba : Blk W1 (w.heap.size + 1) a.cells 71 := by rw [hW1]; exact ((show Blk _ (w.heap.size + 1) a.cells 71 by simpa using Blk.new (w.alloc (.cells n.cells 41)) a.cells 71).alloc _).alloc _
  have bb : Blk W1 (w.heap.size + 1 + 1) b.cells 71 := by rw [hW1]; exact (show Blk _ (w.heap.size + 1 + 1) b.cells 71 by simpa using Blk.new ((w.alloc (.cells n.cells 41)).alloc (.cells a.cells 71)) b.cells 71).alloc _
  have bo : Blk W1 (w.heap.size + 1 + 1 + 1) #[.int .i64 0, .slice none 0 0] 71 := by rw [hW1]; simpa using Blk.new (((w.alloc (.cells n.cells 41)).alloc (.cells a.cells 71)).alloc (.cells b.cells 71)) #[.int .i64 0, .slice none 0 0] 71
  have HA := hide (ahead_any n b a W1 (h.grown hB1) hck (hb.grown hB1) (ha.grown hB1) hb0 hb1 ha0 ha1)
  have Hd : Hid (n.net.bestM a b = if n.net.ahead b.rt a.rt = true then b else a) := hide rfl
  generalize n.net.ahead b.rt a.rt = av at *
  generalize n.net.bestM a b = rs at *
  have HB1 := hide hB1
  have Hba := hide ba
  have Hbb := hide bb
  have Hbo := hide bo
  simp only [NetM.val, NetM.cells, Mat.val, RtM.val, RtM.cells] at hW1 HA ⊢
  clear hB1 ba bb bo h ha hb hck ha0 ha1 hb0 hb1
  have HW1 := hide hW1
  rw [hW1] at HA
  clear hW1
  go_enter Try.func93, Try.ntmps93
  go_wp2_with fail
  go_at_call 160
  refine HA.out.mono ?_
  rw [← HW1.out]
  rintro e w2 ⟨rfl, hb2⟩
  have hB2 := HB1.out.trans (hb2.mono HB1.out.size)
  have ba2 := Hba.out.below hb2 Hba.out.lt
  have bb2 := Hbb.out.below hb2 Hbb.out.lt
  have bo2 := Hbo.out.below hb2 Hbo.out.lt
  have y0 := ba2.cell 0
  have y1 := ba2.cell 1
  have z0 := bb2.cell 0
  have z1 := bb2.cell 1
  have o0 := bo2.cell 0
  have o1 := bo2.cell 1
  have of0 := bo2.frozen 0
  have of1 := bo2.frozen 1
  simp [RtM.cells] at y0 y1 z0 z1 o0 o1
  cases av with
  | true =>
    have hr : rs = b := by rw [Hd.out, if_pos rfl]
    subst hr
    have HB3 := hide ((hB2.setCell (p := ⟨w.heap.size + 1 + 1 + 1, 0, none⟩) (by show w.heap.size ≤ w.heap.size + 1 + 1 + 1; omega) (.int .i64 rs.w)).setCell (p := ⟨w.heap.size + 1 + 1 + 1, 1, none⟩) (by show w.heap.size ≤ w.heap.size + 1 + 1 + 1; omega) (.slice rs.pa rs.l rs.q))
    have b3 := bo2.set2 (.int .i64 rs.w) (.slice rs.pa rs.l rs.q)
    have e0 := b3.cell 0
    have e1 := b3.cell 1
    simp at e0 e1
    clear hB2 hb2 ba2 bb2 bo2 HA HB1 Hba Hbb Hbo HW1 b3
    go_wp2
    exact bodyPost_ret (v := .agg #[.int .i64 rs.w, .slice rs.pa rs.l rs.q]) (by simp [results, Try.results93, go_sem, e0, e1]) rfl ⟨rfl, HB3.out⟩
  | false =>
    have hr : rs = a := by rw [Hd.out, if_neg (by simp)]
    subst hr
    have HB3 := hide ((hB2.setCell (p := ⟨w.heap.size + 1 + 1 + 1, 0, none⟩) (by show w.heap.size ≤ w.heap.size + 1 + 1 + 1; omega) (.int .i64 rs.w)).setCell (p := ⟨w.heap.size + 1 + 1 + 1, 1, none⟩) (by show w.heap.size ≤ w.heap.size + 1 + 1 + 1; omega) (.slice rs.pa rs.l rs.q))
    have b3 := bo2.set2 (.int .i64 rs.w) (.slice rs.pa rs.l rs.q)
    have e0 := b3.cell 0
    have e1 := b3.cell 1
    simp at e0 e1
    clear hB2 hb2 ba2 bb2 bo2 HA HB1 Hba Hbb Hbo HW1 b3
    go_wp2
    exact bodyPost_ret (v := .agg #[.int .i64 rs.w, .slice rs.pa rs.l rs.q]) (by simp [results, Try.results93, go_sem, e0, e1]) rfl ⟨rfl, HB3.out⟩

theorem append_zero (w : World) (ty : TypeId) (g : Nat) (ad : Option Addr) (q : Nat) :
    (Builtin.append_ #[22, 22] ty #[.slice (some ⟨g, 0, none⟩) 0 0, .slice ad 0 q]).run Try.prog w = .ok (.slice (some ⟨g, 0, none⟩) 0 0) w := by
  obtain ⟨i1, hi1, hy0, hy1, hy2⟩ := info_parts Try.infoInt
  cases ad <;> simp [Builtin.append_, run_underlying Try.underlying22, sizeOf, typeInfo, hi1, Builtin.lenOf, Builtin.firstCells, storeCells, loadCells, loadCellsFrom]

set_option maxHeartbeats 1000000 in
theorem clone_none (a : Option Addr) (q : Nat) (w : World) :
    Calls Try.prog 139 #[.slice a 0 q] w fun e w' => ∃ (a' : Option Addr) (c : Nat), e = .returned (.slice a' 0 c) ∧ Below w.heap.size w w' := by
  have HB := hide ((Below.refl w.heap.size w).alloc (Nat.le_refl _) (.cells #[] 3))
  cases a with
  | none =>
    have hnil := Lib.run_eql_slice_nil (P := Try.prog) w 22 3 none 0 q 0 0 Try.underlying22
    go_enter Try.func139, Try.ntmps139
    go_wp2
    go_ret
    exact ⟨none, 0, rfl, Below.refl _ _⟩
  | some ad =>
    have hnil := Lib.run_eql_slice_nil (P := Try.prog) w 22 3 (some ad) 0 q 0 0 Try.underlying22
    go_enter Try.func139, Try.ntmps139
    go_wp2_with (at_builtin; refine Lib.wpList_append_run _ rfl _ _ _ _ rfl _ _ rfl rfl _ _ (append_zero _ _ _ _ _) ?_)
    go_ret
    exact ⟨_, _, rfl, HB.out⟩

theorem clone_all (a : Option Addr) (p q b o : Nat) (f : Nat → Int) (w : World) (h : Ints a p b o f w) (hp1 : p ≤ 100) (hb : 0 < p → b < w.heap.size) :
    Calls Try.prog 139 #[.slice a p q] w fun e w' => (∃ (a' : Option Addr) (c b' : Nat), e = .returned (.slice a' p c) ∧ Ints a' p b' 0 f w' ∧ (0 < p → w.heap.size ≤ b' ∧ b' < w'.heap.size)) ∧ Below w.heap.size w w' := by
  by_cases hp : 0 < p
  · refine (clone_any a p q b o f w h hp hp1 (hb hp)).mono ?_
    rintro e w' ⟨g, c, rfl, h1, h2, h3, h4⟩
    exact ⟨⟨some ⟨g, 0, none⟩, c, g, rfl, ⟨fun _ => rfl, fun i hi => by rw [Nat.zero_add]; exact h4 i hi, h.len⟩, fun _ => ⟨h2, h3⟩⟩, h1⟩
  · obtain rfl : p = 0 := by omega
    refine (clone_none a q w).mono ?_
    rintro e w' ⟨a', c, rfl, hb'⟩
    exact ⟨⟨a', c, 0, rfl, ⟨fun h0 => absurd h0 (Nat.lt_irrefl _), fun i hi => absurd hi (Nat.not_lt_zero _), h.len⟩, fun h0 => absurd h0 (Nat.lt_irrefl _)⟩, hb'⟩

end Go.Proofs.Ytjhkadffaephmab

/-
  path.copied.
-/
namespace Go.Proofs.Ytjhkadffaephmab
set_option maxRecDepth 100000
open Go.RowKit

/-- A route that was made: the same, in memory from lo on. -/
structure RtM.Made (r : RtM) (lo : Nat) (x : Rt) (W : World) : Prop where
  mem : r.In W.heap.size W
  own : 0 < r.l → lo ≤ r.b
  same : r.rt = x
theorem RtM.Made.grown {r : RtM} {lo : Nat} {x : Rt} {W W' : World} (h : r.Made lo x W) (hb : Below W.heap.size W W') : r.Made lo x W' := ⟨h.mem.grown hb, h.own, h.same⟩
theorem RtM.Made.lower {r : RtM} {lo lo' : Nat} {x : Rt} {W : World} (h : r.Made lo x W) (hl : lo' ≤ lo) : r.Made lo' x W := ⟨h.mem, fun h0 => Nat.le_trans hl (h.own h0), h.same⟩

structure CopG (r : RtM) (w W : World) : Prop where
  below : Below w.heap.size w W
  box : Blk W w.heap.size r.cells 71
  out : Blk W (w.heap.size + 1) #[.int .i64 0, .slice none 0 0] 71
theorem CopG.keep {r : RtM} {w W W' : World} (h : CopG r w W) (hb : Below W.heap.size W W') : CopG r w W' := ⟨h.below.trans (hb.mono h.below.size), h.box.below hb h.box.lt, h.out.below hb h.out.lt⟩
def copP (r : RtM) (B : Nat) (a' : Option Addr) (b' : Nat) (W : World) : Prop := Ints a' r.l b' 0 r.f W ∧ (0 < r.l → B + 1 < b' ∧ b' < W.heap.size)
theorem copP.keep {r : RtM} {B : Nat} {a' : Option Addr} {b' : Nat} {W W' : World} (h : copP r B a' b' W) (hb : Below W.heap.size W W') : copP r B a' b' W' := ⟨h.1.below hb (fun h0 => (h.2 h0).2), fun h0 => ⟨(h.2 h0).1, Nat.lt_of_lt_of_le (h.2 h0).2 hb.size⟩⟩
def copE (r : RtM) (B : Nat) (k : Nat) (v : Value) (W : World) : Prop :=
  match k with
  | 0 => v = .pointer (some ⟨B, 0, none⟩)
  | 1 => v = .int .i64 r.w
  | 2 => v = .pointer (some ⟨B, 1, none⟩)
  | 3 => v = .slice r.pa r.l r.q
  | 4 => ∃ a' c b', v = .slice a' r.l c ∧ copP r B a' b' W
  | _ => ∃ a' c b', v = .agg #[.int .i64 r.w, .slice a' r.l c] ∧ copP r B a' b' W
theorem copE.keep {r : RtM} {B : Nat} {W W' : World} (hb : Below W.heap.size W W') (k : Nat) (v : Value) (h : copE r B k v W) : copE r B k v W' := by
  unfold copE at *
  split at h
  all_goals first | exact h | skip
  · obtain ⟨a', c, b', h1, h2⟩ := h
    exact ⟨a', c, b', h1, h2.keep hb⟩
  · obtain ⟨a', c, b', h1, h2⟩ := h
    exact ⟨a', c, b', h1, h2.keep hb⟩

set_option maxHeartbeats 2000000 in
theorem copied_any (r : RtM) (w : World) (h : r.In w.heap.size w) (hl : r.l ≤ 100) :
    Calls Try.prog 92 #[r.val] w fun e w' => (∃ r' : RtM, e = .returned r'.val ∧ r'.Made w.heap.size r.rt w') ∧ Below w.heap.size w w' := by
  obtain ⟨W1, hW1⟩ : ∃ W1, W1 = (w.alloc (.cells r.cells 71)).alloc (.cells #[.int .i64 0, .slice none 0 0] 71) := ⟨_, rfl⟩
  have hB1 : Below w.heap.size w W1 := by rw [hW1]; exact ((Below.refl _ w).alloc (Nat.le_refl _) _).alloc (by simp) _
  have HG : Hid (CopG r w W1) := hide ⟨hB1, by rw [hW1]; exact (Blk.new w _ _).alloc _, by rw [hW1]; simpa using Blk.new (w.alloc (.cells r.cells 71)) #[.int .i64 0, .slice none 0 0] 71⟩
  have HC := hide (fun W (hb : Below w.heap.size w W) => clone_all r.pa r.l r.q r.b r.o r.f W (h.below hb (Nat.le_refl _)).ints hl (fun h0 => Nat.lt_of_lt_of_le (h.blk h0) hb.size))
  have Hlen := hide h.ints.len
  have HW1 := hide hW1
  simp only [RtM.val, RtM.cells] at HW1 ⊢
  clear hB1 hW1 h hl
  go_enter Try.func92, Try.ntmps92
  go_wp2_with fail
  rw [← HW1.out]
  clear HW1
  refine wp_region_last 6 _ (CopG r w) (copE r w.heap.size)
    (fun _ W => ∃ r' : RtM, Blk W (w.heap.size + 1) r'.cells 71 ∧ r'.Made w.heap.size r.rt W ∧ Below w.heap.size w W) (fun _ _ _ => True) (by kernel_rfl) (by kernel_rfl) (by kernel_rfl) (by kernel_rfl) (by kernel_rfl) rfl (HG.out.keep (below_drewN (Below.refl _ _) 1)) ⟨?_, ?_, ?_, ?_, ?_, ?_, trivial⟩ ?_ trivial ?_
  rotate_right
  · intro t W hG _
    simp only [fill, Act.put, List.setIfInBounds_toArray, List.set_cons_zero, List.set_cons_succ]
    obtain ⟨r', hb', hm', hbl⟩ := hG
    have HM := hide hm'
    have HBl := hide hbl
    have e0 := hb'.cell 0
    have e1 := hb'.cell 1
    simp [RtM.cells] at e0 e1
    clear hb' hm' hbl
    go_wp2
    exact bodyPost_ret (v := .agg #[.int .i64 r'.w, .slice r'.pa r'.l r'.q]) (by simp [results, Try.results92, go_sem, e0, e1]) rfl ⟨⟨r', rfl, HM.out⟩, HBl.out⟩
  rotate_right
  · intro t W hG hE _ K hK
    simp only [fill, Act.put, List.setIfInBounds_toArray, List.set_cons_zero, List.set_cons_succ] at hK ⊢
    rw [if_pos (by rfl)]
    obtain ⟨a', c, b', e5, hp⟩ := hE 5 (by omega)
    have o0 := hG.out.cell 0
    have o1 := hG.out.cell 1
    have of0 := hG.out.frozen 0
    have of1 := hG.out.frozen 1
    simp at o0 o1
    have b3 := hG.out.set2 (.int .i64 r.w) (.slice a' r.l c)
    have hbl := (hG.below.setCell (p := ⟨w.heap.size + 1, 0, none⟩) (by show w.heap.size ≤ w.heap.size + 1; omega) (.int .i64 r.w)).setCell (p := ⟨w.heap.size + 1, 1, none⟩) (by show w.heap.size ≤ w.heap.size + 1; omega) (.slice a' r.l c)
    have hne : 0 < r.l → b' ≠ w.heap.size + 1 := fun h0 => by have := (hp.2 h0).1; omega
    have hI : Ints a' r.l b' 0 r.f ((W.setCell ⟨w.heap.size + 1, 0, none⟩ (.int .i64 r.w)).setCell ⟨w.heap.size + 1, 1, none⟩ (.slice a' r.l c)) := ⟨hp.1.addr, fun i hi => by
      rw [cell_other (hne (by omega)), cell_other (hne (by omega))]
      exact hp.1.cell i hi, hp.1.len⟩
    have hM : (RtM.mk r.w a' r.l c b' 0 r.f).Made w.heap.size r.rt ((W.setCell ⟨w.heap.size + 1, 0, none⟩ (.int .i64 r.w)).setCell ⟨w.heap.size + 1, 1, none⟩ (.slice a' r.l c)) := ⟨⟨hI, fun h0 => by have := (hp.2 h0).2; simpa [World.setCell] using this⟩, fun h0 => by have := (hp.2 h0).1; show w.heap.size ≤ b'; omega, rfl⟩
    simp only [e5] at hK ⊢
    go_simp
    exact hK undef _ ⟨RtM.mk r.w a' r.l c b' 0 r.f, b3, hM, hbl⟩
  all_goals intro t W hG hp _ K hK
  all_goals simp only [fill, Act.put, List.setIfInBounds_toArray, List.set_cons_zero, List.set_cons_succ] at hK ⊢
  all_goals rw [if_pos (by rfl)]
  · go_simp
    exact hK _ W hG rfl (fun _ _ _ h => h)
  · have e0 : t 0 = .pointer (some ⟨w.heap.size, 0, none⟩) := hp 0 (by decide)
    have x0 := hG.box.cell 0
    simp [RtM.cells] at x0
    simp only [e0] at hK ⊢
    go_simp
    exact hK _ W hG rfl (fun _ _ _ h => h)
  · go_simp
    exact hK _ W hG rfl (fun _ _ _ h => h)
  · have e2 : t 2 = .pointer (some ⟨w.heap.size, 1, none⟩) := hp 2 (by decide)
    have x1 := hG.box.cell 1
    simp [RtM.cells] at x1
    simp only [e2] at hK ⊢
    go_simp
    exact hK _ W hG rfl (fun _ _ _ h => h)
  · have e3 : t 3 = .slice r.pa r.l r.q := hp 3 (by decide)
    simp only [e3] at hK ⊢
    go_simp
    go_at_call 139
    refine (HC.out W hG.below).mono ?_
    rintro e W' ⟨⟨a', c, b', rfl, hI, hbb⟩, hb⟩
    go_simp
    exact hK _ W' (hG.keep hb) ⟨a', c, b', rfl, hI, fun h0 => ⟨Nat.lt_of_lt_of_le (by have := hG.out.lt; omega) (hbb h0).1, (hbb h0).2⟩⟩ (fun k u _ => copE.keep hb k u)
  · have e1 : t 1 = .int .i64 r.w := hp 1 (by decide)
    obtain ⟨a', c, b', e4, hpp⟩ := hp 4 (by decide)
    simp only [e1, e4] at hK ⊢
    go_simp
    exact hK _ W hG ⟨a', c, b', rfl, hpp⟩ (fun _ _ _ h => h)

end Go.Proofs.Ytjhkadffaephmab

/-
  slices.Grow of nothing; slices.Concat of two rows.
-/
namespace Go.Proofs.Ytjhkadffaephmab
set_option maxRecDepth 100000
open Go.RowKit

set_option maxHeartbeats 1000000 in
theorem grow_nil (k : Nat) (w : World) (hk : 0 < k) (hk1 : k ≤ 200) :
    Calls Try.prog 196 #[.slice none 0 0, .int .i64 k] w fun e w' => (∃ g c : Nat, e = .returned (.slice (some ⟨g, 0, none⟩) 0 c) ∧ w'.ownsRow w.heap.size 3 1 (.slice (some ⟨g, 0, none⟩) 0 c) 0 []) ∧ Below w.heap.size w w' := by
  obtain ⟨i1, hi1, hy0, hy1, hy2⟩ := info_parts Try.infoInt
  have hrz : ∀ ty, (Builtin.append_ #[22, 3] ty #[.slice none 0 0, .int .i64 k]).run Try.prog w = .ok (.slice (some ⟨w.heap.size, 0, none⟩) (0 + k) (grownCap w (0 + k) 0 3)) (w.drew.alloc (.cells (([] : List Value).toArray ++ Builtin.zeroCells (Value.int .i64 0).cells k ++ Builtin.zeroCells (Value.int .i64 0).cells (grownCap w (0 + k) 0 3 - (0 + k))) 3)) := fun ty =>
    Lib.run_append_grow_zeros w 22 3 ty 3 i1 (.int .i64 0) .i64 .i64 Try.underlying22 Try.underlying3 hi1 hy0 none 0 0 [] (run_firstCells_none w.drew i1.size 0 0 0) k hk (by omega) (by omega) (by omega) (by rw [hy2]; omega) (growslice_fits (by omega) (by rw [hy2]; omega))
  have hge : 0 + k ≤ grownCap w (0 + k) 0 3 := grownCap_ge w _ _ _
  have hle := grownCap_le_maxLen w (0 + k) 0 3 (by unfold maxLen; omega)
  obtain ⟨G, hG⟩ : ∃ G, G = grownCap w (0 + k) 0 3 := ⟨_, rfl⟩
  rw [← hG] at hrz hge hle
  have hO : (w.drew.alloc (.cells (([] : List Value).toArray ++ Builtin.zeroCells (Value.int .i64 0).cells k ++ Builtin.zeroCells (Value.int .i64 0).cells (G - (0 + k))) 3)).ownsRow w.heap.size 3 1 (.slice (some ⟨w.heap.size, 0, none⟩) 0 G) 0 [] :=
    World.ownsRow_made w.drew _ G (Nat.le_refl _) hle (by simp [size_zeroCells, Value.cells]; omega)
  have HO := hide hO
  have hbw : Below w.heap.size w (w.drew.alloc (.cells (([] : List Value).toArray ++ Builtin.zeroCells (Value.int .i64 0).cells k ++ Builtin.zeroCells (Value.int .i64 0).cells (G - (0 + k))) 3)) := (below_drewN (Below.refl _ w) 1).alloc (Nat.le_refl _) _
  have HB := hide hbw
  generalize (([] : List Value).toArray ++ Builtin.zeroCells (Value.int .i64 0).cells k ++ Builtin.zeroCells (Value.int .i64 0).cells (G - (0 + k))) = zs at *
  unfold maxLen at hle
  clear hO hbw hG
  go_enter Try.func196, Try.ntmps196
  go_wp2_with (at_builtin; refine Lib.wpList_append_run _ rfl _ _ _ _ rfl _ _ rfl rfl _ _ (hrz _) ?_)
  go_ret
  exact ⟨⟨_, _, rfl, HO.out⟩, HB.out⟩

set_option maxHeartbeats 2000000 in
theorem concat_two (i : Int) (sb lb l q b o : Nat) (f : Nat → Int) (w : World) (hs : Blk w sb #[.slice (some ⟨lb, 0, none⟩) 1 1, .slice (some ⟨b, o, none⟩) (l + 1) q] 22) (hl : Blk w lb #[.int .i64 i] 3) (hI : Ints (some ⟨b, o, none⟩) (l + 1) b o f w) (hb : b < w.heap.size) (hl1 : l ≤ 50) :
    Calls Try.prog 163 #[.slice (some ⟨sb, 0, none⟩) 2 2] w fun e w' => (∃ v, e = .returned v ∧ w'.ownsRow w.heap.size 3 1 v (l + 2) (intV (i :: listOf (l + 1) f))) ∧ Below w.heap.size w w' := by
  obtain ⟨i1, hi1, hy0, hy1, hy2⟩ := info_parts Try.infoInt
  have HS := hide hs
  have HL := hide hl
  have HI := hide hI
  have Hb := hide hb
  have HG := hide (grow_nil (l + 2) w (by omega) (by omega))
  rw [show (((l + 2 : Nat)) : Int) = (l : Int) + 2 by omega] at HG
  clear hs hl hI hb
  go_enter Try.func163, Try.ntmps163
  go_wp2_with fail
  go_loopw [3, 5, 11] (fun s _ q wr => ∃ (k : Nat) (z : Int), q = .int .i64 k ∧ s = .int .i64 z ∧ Hid ((k = 0 ∧ z = 0) ∨ (k = 1 ∧ z = 1) ∨ (k = 2 ∧ z = (l : Int) + 2)) ∧ Hid (wr = w)) (fun _ _ q _ => 2 - (intOf q).toNat)
  case atStart => exact ⟨0, 0, rfl, rfl, hide (Or.inl ⟨rfl, rfl⟩), hide rfl⟩
  case round =>
    obtain ⟨k, z, rfl, rfl, hc, HW⟩ := hrel
    have hww : w = wr := HW.out.symm
    subst hww
    have c0 := HS.out.cell 0
    have c1 := HS.out.cell 1
    simp at c0 c1
    rcases hc.out with ⟨rfl, rfl⟩ | ⟨rfl, rfl⟩ | ⟨rfl, rfl⟩
    · clear hc HW
      go_wp2
      go_roundw
      case rel =>
        first
        | exact ⟨1, 1, by go_num, by go_num, hide (Or.inr (Or.inl ⟨rfl, rfl⟩)), hide (by first | rfl | trivial)⟩
        | ((repeat apply Exists.intro); refine ⟨?_, rfl⟩; exact ⟨1, 1, by go_num, by go_num, hide (Or.inr (Or.inl ⟨rfl, rfl⟩)), hide (by first | rfl | trivial)⟩)
      case measure => simp [intOf]
    · clear hc HW
      go_wp2
      go_roundw
      case rel =>
        first
        | exact ⟨2, (l : Int) + 2, by go_num, by go_num, hide (Or.inr (Or.inr ⟨rfl, rfl⟩)), hide (by first | rfl | trivial)⟩
        | ((repeat apply Exists.intro); refine ⟨?_, rfl⟩; exact ⟨2, (l : Int) + 2, by go_num, by go_num, hide (Or.inr (Or.inr ⟨rfl, rfl⟩)), hide (by first | rfl | trivial)⟩)
      case measure => simp [intOf]
    · clear hc HW
      go_wp2_with fail
      go_at_call 196
      refine HG.out.mono ?_
      rintro e w2 ⟨⟨g, cg, rfl, ho⟩, hb2⟩
      have HO := hide ho
      have HB2 := hide hb2
      clear ho hb2 HG c0 c1
      go_wp2_with fail
      go_loopw [6, 8, 27] (fun s _ q W => ∃ (k : Nat) (xs : List Int) (gv cv : Nat), q = .int .i64 k ∧ s = .slice (some ⟨gv, 0, none⟩) xs.length cv ∧ Hid ((k = 0 ∧ xs = []) ∨ (k = 1 ∧ xs = [i]) ∨ (k = 2 ∧ xs = i :: listOf (l + 1) f)) ∧ Hid (W.ownsRow w.heap.size 3 1 s xs.length (intV xs)) ∧ Hid (Below w.heap.size w W)) (fun _ _ q _ => 2 - (intOf q).toNat)
      case atStart => exact ⟨0, [], g, cg, rfl, rfl, hide (Or.inl ⟨rfl, rfl⟩), HO, HB2⟩
      case round =>
        clear HO HB2
        obtain ⟨k, xs, gv, cv, rfl, rfl, hc, HO, HB⟩ := hrel
        have bs := HS.out.below HB.out HS.out.lt
        have c0 := bs.cell 0
        have c1 := bs.cell 1
        simp at c0 c1
        clear bs
        rcases hc.out with ⟨rfl, rfl⟩ | ⟨rfl, rfl⟩ | ⟨rfl, rfl⟩
        · have HN : Hid (∀ j u, ([.int .i64 i] : List Value)[j]? = some u → wr.cell? ((⟨lb, 0, none⟩ : Addr).add j) = some u) := hide (World.news_of_block (HL.out.below HB.out HL.out.lt))
          clear hc
          simp only [List.length_nil] at HO ⊢
          go_wp2_with (at_builtin; refine wpList_append_lies _ rfl _ _ _ rfl w.heap.size 3 i1 _ 1 8 Try.underlying22 hi1 hy0 hy1 hy2 rfl (by decide) _ 0 _ rfl HO.out ⟨lb, 0, none⟩ 1 1 [.int .i64 i] rfl rfl HN.out (by simp [Value.oneCell']) (by decide) ?c3 ?c4 ?c5 _ rfl ?_)
          all_goals try (case c3 => unfold maxLen; omega)
          all_goals try (case c4 => omega)
          all_goals try (case c5 => have := HB.out.size; omega)
          intro g' cap' w4 hown2 hgrow hat2 hlt2
          have HB4 := hide (HB.out.trans (grown_below hgrow (fun g hg => (HO.out.lt g hg).1) HB.out.size))
          have HO4 : Hid (w4.ownsRow w.heap.size 3 1 (.slice (some ⟨g', 0, none⟩) (0 + 1) cap') ([i]).length (intV ([i]))) := hide (by simpa [intV] using hown2)
          clear hown2 hgrow hat2 hlt2
          go_wp2
          go_roundw
          case rel =>
            first
            | exact ⟨1, [i], g', cap', by go_num, by rfl, hide (Or.inr (Or.inl ⟨rfl, rfl⟩)), HO4, HB4⟩
            | ((repeat apply Exists.intro); refine ⟨?_, rfl⟩; exact ⟨1, [i], g', cap', by go_num, by rfl, hide (Or.inr (Or.inl ⟨rfl, rfl⟩)), HO4, HB4⟩)
          case measure => simp [intOf]
        · have hIw := HI.out.below HB.out (fun _ => Hb.out)
          have HN : Hid (∀ j u, (intV (listOf (l + 1) f))[j]? = some u → wr.cell? ((⟨b, o, none⟩ : Addr).add j) = some u) := hide (fun j u hu => by
            have hj : j < l + 1 := by
              rcases Nat.lt_or_ge j (l + 1) with h' | h'
              · exact h'
              · rw [List.getElem?_eq_none (by rw [intV_len, listOf_length]; exact h')] at hu; cases hu
            rw [intV_get (listOf_get hj)] at hu
            cases hu
            rw [Go.WideShapes.add_plain]
            exact hIw.cell j hj)
          have HNl : Hid ((intV (listOf (l + 1) f)).length = (l + 1) * 1) := hide (by rw [intV_len, listOf_length, Nat.mul_one])
          have HN1 : Hid (∀ u ∈ intV (listOf (l + 1) f), u.oneCell' = true) := hide (fun u hu => by
            obtain ⟨_, _, rfl⟩ := List.mem_map.1 hu
            rfl)
          have hlen2 : (i :: listOf (l + 1) f).length = 1 + (l + 1) := by rw [List.length_cons, listOf_length]; omega
          have hiv : intV (i :: listOf (l + 1) f) = intV [i] ++ intV (listOf (l + 1) f) := rfl
          clear hc hIw
          simp only [List.length_cons, List.length_nil, Nat.zero_add] at HO ⊢
          go_wp2_with (at_builtin; refine wpList_append_lies _ rfl _ _ _ rfl w.heap.size 3 i1 _ 1 8 Try.underlying22 hi1 hy0 hy1 hy2 rfl (by decide) _ 1 _ rfl HO.out ⟨b, o, none⟩ (l + 1) q (intV (listOf (l + 1) f)) rfl HNl.out HN.out HN1.out (by omega) ?c3 ?c4 ?c5 _ rfl ?_)
          all_goals try (case c3 => unfold maxLen; omega)
          all_goals try (case c4 => omega)
          all_goals try (case c5 => have := HB.out.size; omega)
          intro g' cap' w4 hown2 hgrow hat2 hlt2
          have HB4 := hide (HB.out.trans (grown_below hgrow (fun g hg => (HO.out.lt g hg).1) HB.out.size))
          have HO4 : Hid (w4.ownsRow w.heap.size 3 1 (.slice (some ⟨g', 0, none⟩) (1 + (l + 1)) cap') (i :: listOf (l + 1) f).length (intV (i :: listOf (l + 1) f))) := hide (by rw [hlen2, hiv]; exact hown2)
          clear hown2 hgrow hat2 hlt2
          go_wp2
          go_roundw
          case rel =>
            first
            | exact ⟨2, i :: listOf (l + 1) f, g', cap', by go_num, by rw [hlen2], hide (Or.inr (Or.inr ⟨rfl, rfl⟩)), HO4, HB4⟩
            | ((repeat apply Exists.intro); refine ⟨?_, rfl⟩; exact ⟨2, i :: listOf (l + 1) f, g', cap', by go_num, by rw [hlen2], hide (Or.inr (Or.inr ⟨rfl, rfl⟩)), HO4, HB4⟩)
          case measure => simp [intOf]
        · have hlen2 : (i :: listOf (l + 1) f).length = l + 2 := by rw [List.length_cons, listOf_length]
          rw [hlen2] at HO
          rw [hlen2]
          clear hc hlen2
          go_wp2
          go_ret
          exact ⟨⟨_, rfl, HO.out⟩, HB.out⟩

end Go.Proofs.Ytjhkadffaephmab
