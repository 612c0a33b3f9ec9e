/-
  Our own texts, bundled: a claim holds few files.
-/
import Derived.Test.YtjhkadffaephmabBundleEI
import Derived.Test.YtjhkadffaephmabBundleDI
import Derived.Test.YtjhkadffaephmabBundleBI
/-
  signpostref.IsRight.
-/
namespace Go.Proofs.Ytjhkadffaephmab
set_option maxRecDepth 100000
open Go.RowKit

theorem twice_at {l k : Nat} {f : Nat → Int} (hk : k < l) (h : f k ∈ listOf k f) : twiceIn (listOf l f) = true := by
  rw [← any_twice, List.any_eq_true]
  exact ⟨k, List.mem_range.2 hk, by simpa using h⟩
theorem twice_not {l : Nat} {f : Nat → Int} (h : ∀ k, k < l → f k ∉ listOf k f) : twiceIn (listOf l f) = false := by
  rw [← any_twice, List.any_eq_false]
  intro k hk
  have := h k (List.mem_range.1 hk)
  simpa using this
theorem Net.right_ref {n : Net} {r : RtM} (h : (decide (0 ≤ r.w) && decide (r.w < n.a.size)) = true) (hv : n.valid r.rt = true) :
    n.right r.rt = (decide (0 < r.l) && (rowIn r.l r.f n.nodes && !twiceIn (listOf r.l r.f))) := by
  unfold Net.right
  rw [if_pos hv, show (decide (0 ≤ r.rt.w) && decide (r.rt.w < n.a.size)) = true from h, Bool.true_and, show r.rt.p = listOf r.l r.f from rfl, all_rowIn, Bool.and_assoc]
  congr 1
  have := listOf_length r.l r.f
  cases hl : listOf r.l r.f with
  | nil => rw [hl] at this; simp at this; simp [← this]
  | cons a t => rw [hl] at this; simp at this; simp; omega

set_option maxHeartbeats 4000000 in
theorem refRight_any (n : NetM) (r : RtM) (w : World) (h : r.In w.heap.size w) (hck : n.net.check = 0) (hq : r.l ≤ r.q ∧ r.q ≤ maxLen) :
    Calls Try.prog 35 #[n.val, r.val] w fun e w' => e = .returned (.bool (n.net.right r.rt)) ∧ Below w.heap.size w w' := by
  have g := Net.good_of_check hck
  have hs2 : 2 ≤ n.a.size := g.law.good.lo
  have hs24 : n.a.size ≤ 24 := g.law.good.hi
  have hn1 : 1 ≤ n.nodes := g.lo
  have hn6 : n.nodes ≤ 6 := g.hi
  have hlen := h.ints.len
  unfold maxLen at hlen hq
  obtain ⟨W1, hW1⟩ : ∃ W1, W1 = (w.alloc (.cells n.cells 41)).alloc (.cells r.cells 71) := ⟨_, rfl⟩
  have hB1 : Below w.heap.size w W1 := by rw [hW1]; exact ((Below.refl _ w).alloc (Nat.le_refl _) _).alloc (by simp) _
  have bn : Blk W1 w.heap.size n.cells 41 := by rw [hW1]; exact (Blk.new w _ _).alloc _
  have br : Blk W1 (w.heap.size + 1) r.cells 71 := by rw [hW1]; exact Blk.new' (by simp)
  have HBt := hide (fun W => between_any r.w 0 (n.a.size - 1) W)
  have hbe : (decide (0 ≤ r.w) && decide (r.w ≤ n.a.size - 1)) = (decide (0 ≤ r.w) && decide (r.w < n.a.size)) := by
    congr 1
    exact decide_eq_decide.2 (by omega)
  rw [hbe] at HBt
  have Hout := hide (Net.right_out (n := n.net) (r := r.rt))
  have Hinv := hide (Net.right_inv (n := n.net) (r := r.rt))
  have Hval := hide (Net.right_ref (n := n.net) (r := r))
  have e1 : r.rt.w = r.w := rfl
  have e2 : r.rt.p = listOf r.l r.f := rfl
  have e3 : n.net.a.size = n.a.size := rfl
  have e4 : n.net.nodes = n.nodes := rfl
  rw [e1, e3] at Hout
  rw [e1, e3, e2, listOf_length] at Hinv
  rw [e3, e4] at Hval
  have Hvd : Hid (n.net.valid r.rt = (r.w != n.a.size - 1)) := hide rfl
  have HI := hide (fun W (hb : Below w.heap.size w W) => h.below hb (Nat.le_refl _))
  clear e1 e2 e3 e4 g hck h hbe
  generalize n.net.right r.rt = rg at *
  generalize n.net.valid r.rt = vd at *
  generalize (decide (0 ≤ r.w) && decide (r.w < n.a.size)) = wi at *
  have x0 := bn.cell 0
  have y0 := br.cell 0
  have y1 := br.cell 1
  simp [NetM.cells, RtM.cells] at x0 y0 y1
  have HB1 := hide hB1
  have Hbn := hide bn
  have Hbr := hide br
  have HNk0 := hide (fun (i : Int) (W : World) => isNode_any n i W hn1 hn6)
  simp only [NetM.val, NetM.cells, Mat.val, RtM.val, RtM.cells] at hW1 HNk0 ⊢
  clear hB1 bn br
  go_enter Try.func35, Try.ntmps35
  rw [hW1] at x0 y0 y1
  go_wp2_with fail
  rw [← hW1] at x0 y0 y1 ⊢
  clear hW1
  go_at_call 99
  refine (HBt.out W1).mono ?_
  rintro e w2 ⟨rfl, rfl⟩
  cases wi with
  | false =>
    have Hr := hide (Hout.out (by trivial))
    clear Hout Hinv Hval
    go_wp2
    go_ret
    exact ⟨by rw [Hr.out]; rfl, HB1.out⟩
  | true =>
    clear Hout
    by_cases hv : r.w = n.a.size - 1
    · have hv' : (r.w == n.a.size - 1) = true := by simp [hv]
      have Hr := hide (Hinv.out (by trivial) (by rw [Hvd.out]; simp [hv]))
      clear Hinv Hval hv
      go_wp2
      go_ret
      exact ⟨by rw [Hr.out]; by_cases e : r.l = 0 <;> simp [e], HB1.out⟩
    · have hv' : (r.w == n.a.size - 1) = false := by simp [hv]
      have Hr0 := hide (Hval.out (by trivial) (by rw [Hvd.out]; simp [hv]))
      have HT0 : Hid (∀ W, Below w2.heap.size w2 W → W.cell? ⟨w.heap.size + 1, 1, none⟩ = some (.slice r.pa r.l r.q)) := hide (fun W hb => by
        have := (Hbr.out.below hb Hbr.out.lt).cell 1
        simpa [RtM.cells] using this)
      clear Hinv Hval hv Hvd y1
      go_wp2_with fail
      go_loopw [5] (fun q wr => ∃ k : Nat, k ≤ r.l ∧ q = .int .i64 k ∧ Hid (∀ c, c < k → (0 ≤ r.f c ∧ r.f c < n.nodes) ∧ r.f c ∉ listOf c r.f) ∧ Hid (Below w2.heap.size w2 wr)) (fun q _ => r.l - (intOf q).toNat)
      case atStart => exact ⟨0, Nat.zero_le _, rfl, hide fun c hc => absurd hc (Nat.not_lt_zero _), hide (Below.refl _ _)⟩
      case round =>
        obtain ⟨k, hk, rfl, Hall, HD⟩ := hrel
        have z1 := HT0.out wr HD.out
        by_cases hlt : k < r.l
        · have hki : (k : Int) < (r.l : Int) := by omega
          have hkq : (k : Int) ≤ (r.q : Int) := by omega
          have hpa := (HI.out w (Below.refl _ _)).ints.addr (by omega)
          have HT1 : Hid (∀ W, Below w2.heap.size w2 W → W.cell? ⟨w.heap.size + 1, 1, none⟩ = some (.slice (some ⟨r.b, r.o, none⟩) r.l r.q)) := hide (fun W hb => by rw [HT0.out W hb, hpa])
          have HF1 : Hid (∀ W, Below w2.heap.size w2 W → W.cell? ⟨r.b, r.o + k, none⟩ = some (.int .i64 (r.f k))) := hide (fun W hb => (HI.out W (HB1.out.trans (hb.mono HB1.out.size))).ints.cell k hlt)
          have HHs := hide (fun W (hb : Below w2.heap.size w2 W) => has_ints (some ⟨r.b, r.o, none⟩) k r.q r.b r.o r.f (r.f k) W ⟨fun _ => rfl, fun i hi => (HI.out W (HB1.out.trans (hb.mono HB1.out.size))).ints.cell i (by omega), by unfold maxLen; omega⟩)
          have HNk := hide (HNk0.out (r.f k))
          have Hnode : Hid ((decide (0 ≤ r.f k) && decide (r.f k ≤ n.nodes - 1)) = true → 0 ≤ r.f k ∧ r.f k < n.nodes) := hide (fun e => by simp at e; omega)
          have Hstray : Hid ((decide (0 ≤ r.f k) && decide (r.f k ≤ n.nodes - 1)) = false → rg = false) := hide (fun e => by
            have : rowIn r.l r.f n.nodes = false := by
              cases e1 : rowIn r.l r.f n.nodes with
              | false => rfl
              | true =>
                have := rowIn_iff.1 e1 k hlt
                simp at e
                omega
            rw [Hr0.out, this]
            simp)
          have Hrt0 : Hid (decide (r.f k ∈ listOf k r.f) = true → rg = false) := hide (fun e => by
            rw [Hr0.out, twice_at hlt (by simpa using e)]
            simp)
          have Hrn0 : Hid (decide (r.f k ∈ listOf k r.f) = false → r.f k ∉ listOf k r.f) := hide (fun e => by simpa using e)
          generalize (decide (0 ≤ r.f k) && decide (r.f k ≤ n.nodes - 1)) = nd at *
          generalize decide (r.f k ∈ listOf k r.f) = hm at *
          rw [hpa] at z1
          have Hpa := hide hpa
          clear hpa HNk0 HT0 HI Hbr
          cases nd with
          | false =>
            have Hr := hide (Hstray.out (by trivial))
            clear Hstray Hnode Hrt0 Hrn0
            go_wp2_with fail
            refine wp_region_only (fun W => Below w2.heap.size w2 W) (valsE [n.val, .pointer (some ⟨w.heap.size + 1, 1, none⟩), .slice (some ⟨r.b, r.o, none⟩) r.l r.q, .int .i64 k, .pointer (some ⟨r.b, r.o + k, none⟩), .int .i64 (r.f k), .bool false, .bool true, .bool true, undef, undef, undef, undef, undef, undef, undef, undef, undef, undef, .bool true]) (by kernel_rfl) (by kernel_rfl) (by kernel_rfl) (below_drewN HD.out 1) ⟨?_, ?_, ?_, ?_, ?_, ?_, ?_, ?_, ?_, ?_, ?_, ?_, ?_, ?_, ?_, ?_, ?_, ?_, ?_, ?_, trivial⟩ ?_
            rotate_right
            · intro t W hG hE
              have e19 := valsE_get (hE 19 (by decide)) rfl
              have HG' := hide hG
              clear hE hG
              simp only [fill, Act.put, List.setIfInBounds_toArray, List.set_cons_zero, List.set_cons_succ, e19]
              clear e19
              have HBf := hide (HB1.out.trans (HG'.out.mono HB1.out.size))
              clear HNk
              go_wp2
              go_ret
              exact ⟨by rw [Hr.out]; rfl, HBf.out⟩
            all_goals intro t W hG hp K hK
            all_goals simp only [fill, Act.put, List.setIfInBounds_toArray, List.set_cons_zero, List.set_cons_succ] at hK ⊢
            · have bN := Hbn.out.below hG Hbn.out.lt
              have x0 := bN.cell 0
              have x1 := bN.cell 1
              have x2 := bN.cell 2
              have x3 := bN.cell 3
              have x4 := bN.cell 4
              simp [NetM.cells, Mat.val] at x0 x1 x2 x3 x4
              rw [if_pos (by rfl)]
              go_simp
              exact hK _ W hG rfl (fun _ _ _ h => h)
            · rw [if_pos (by rfl)]
              go_simp
              exact hK _ W hG rfl (fun _ _ _ h => h)
            · have e1 := valsE_get (hp 1 (by decide)) rfl
              have x1 := HT1.out W hG
              simp only [e1] at hK ⊢
              rw [if_pos (by rfl)]
              go_simp
              exact hK _ W hG rfl (fun _ _ _ h => h)
            · rw [if_pos (by rfl)]
              go_simp
              exact hK _ W hG rfl (fun _ _ _ h => h)
            · have e2 := valsE_get (hp 2 (by decide)) rfl
              have e3 := valsE_get (hp 3 (by decide)) rfl
              simp only [e2, e3] at hK ⊢
              rw [if_pos (by rfl)]
              go_simp
              exact hK _ W hG rfl (fun _ _ _ h => h)
            · have e4 := valsE_get (hp 4 (by decide)) rfl
              have x1 := HF1.out W hG
              simp only [e4] at hK ⊢
              rw [if_pos (by rfl)]
              go_simp
              exact hK _ W hG rfl (fun _ _ _ h => h)
            · have e0 := valsE_get (hp 0 (by decide)) rfl
              have e5 := valsE_get (hp 5 (by decide)) rfl
              simp only [NetM.val, NetM.cells, Mat.val] at e0
              simp only [e0, e5] at hK ⊢
              rw [if_pos (by rfl)]
              go_simp
              go_at_call 55
              refine (HNk.out W).mono ?_
              rintro e W' ⟨rfl, rfl⟩
              go_simp
              exact hK _ _ (hG.alloc hG.size _) rfl (fun _ _ _ h => h)
            · have e6 := valsE_get (hp 6 (by decide)) rfl
              simp only [e6] at hK ⊢
              rw [if_pos (by rfl)]
              go_simp
              exact hK _ W hG rfl (fun _ _ _ h => h)
            · have e7 := valsE_get (hp 7 (by decide)) rfl
              simp only [e7] at hK ⊢
              rw [if_pos (by rfl)]
              go_simp
              exact hK _ W hG rfl (fun _ _ _ h => h)
            · have e8 := valsE_get (hp 8 (by decide)) rfl
              simp only [e8] at hK ⊢
              rw [if_neg (by intro hh; exact absurd (show false = true from hh) (by decide))]
              exact hK undef W hG rfl (fun _ _ _ h => h)
            · have e8 := valsE_get (hp 8 (by decide)) rfl
              simp only [e8] at hK ⊢
              rw [if_neg (by intro hh; exact absurd (show false = true from hh) (by decide))]
              exact hK undef W hG rfl (fun _ _ _ h => h)
            · have e8 := valsE_get (hp 8 (by decide)) rfl
              simp only [e8] at hK ⊢
              rw [if_neg (by intro hh; exact absurd (show false = true from hh) (by decide))]
              exact hK undef W hG rfl (fun _ _ _ h => h)
            · have e8 := valsE_get (hp 8 (by decide)) rfl
              simp only [e8] at hK ⊢
              rw [if_neg (by intro hh; exact absurd (show false = true from hh) (by decide))]
              exact hK undef W hG rfl (fun _ _ _ h => h)
            · have e8 := valsE_get (hp 8 (by decide)) rfl
              simp only [e8] at hK ⊢
              rw [if_neg (by intro hh; exact absurd (show false = true from hh) (by decide))]
              exact hK undef W hG rfl (fun _ _ _ h => h)
            · have e8 := valsE_get (hp 8 (by decide)) rfl
              simp only [e8] at hK ⊢
              rw [if_neg (by intro hh; exact absurd (show false = true from hh) (by decide))]
              exact hK undef W hG rfl (fun _ _ _ h => h)
            · have e8 := valsE_get (hp 8 (by decide)) rfl
              simp only [e8] at hK ⊢
              rw [if_neg (by intro hh; exact absurd (show false = true from hh) (by decide))]
              exact hK undef W hG rfl (fun _ _ _ h => h)
            · have e8 := valsE_get (hp 8 (by decide)) rfl
              simp only [e8] at hK ⊢
              rw [if_neg (by intro hh; exact absurd (show false = true from hh) (by decide))]
              exact hK undef W hG rfl (fun _ _ _ h => h)
            · have e8 := valsE_get (hp 8 (by decide)) rfl
              simp only [e8] at hK ⊢
              rw [if_neg (by intro hh; exact absurd (show false = true from hh) (by decide))]
              exact hK undef W hG rfl (fun _ _ _ h => h)
            · have e8 := valsE_get (hp 8 (by decide)) rfl
              simp only [e8] at hK ⊢
              rw [if_neg (by intro hh; exact absurd (show false = true from hh) (by decide))]
              exact hK undef W hG rfl (fun _ _ _ h => h)
            · have e8 := valsE_get (hp 8 (by decide)) rfl
              have e18 := valsE_get (hp 18 (by decide)) rfl
              simp only [e8, e18] at hK ⊢
              rw [if_pos (by rfl)]
              go_simp
              exact hK _ W hG rfl (fun _ _ _ h => h)
          | true =>
            have Hrt : Hid (hm = true → rg = false) := Hrt0
            have Hrn : Hid (hm = false → ∀ c, c < k + 1 → (0 ≤ r.f c ∧ r.f c < n.nodes) ∧ r.f c ∉ listOf c r.f) := hide (fun e c hc => by
              by_cases e1 : c = k
              · subst e1; exact ⟨Hnode.out (by trivial), Hrn0.out e⟩
              · exact Hall.out c (by omega))
            clear Hstray Hnode Hrt0 Hrn0
            go_wp2_with fail
            refine wp_region_only (fun W => Below w2.heap.size w2 W) (valsE [n.val, .pointer (some ⟨w.heap.size + 1, 1, none⟩), .slice (some ⟨r.b, r.o, none⟩) r.l r.q, .int .i64 k, .pointer (some ⟨r.b, r.o + k, none⟩), .int .i64 (r.f k), .bool true, .bool false, .bool false, .pointer (some ⟨w.heap.size + 1, 1, none⟩), .slice (some ⟨r.b, r.o, none⟩) r.l r.q, .int .i64 k, .slice (some ⟨r.b, r.o, none⟩) k r.q, .pointer (some ⟨w.heap.size + 1, 1, none⟩), .slice (some ⟨r.b, r.o, none⟩) r.l r.q, .int .i64 k, .pointer (some ⟨r.b, r.o + k, none⟩), .int .i64 (r.f k), .bool hm, .bool hm]) (by kernel_rfl) (by kernel_rfl) (by kernel_rfl) (below_drewN HD.out 1) ⟨?_, ?_, ?_, ?_, ?_, ?_, ?_, ?_, ?_, ?_, ?_, ?_, ?_, ?_, ?_, ?_, ?_, ?_, ?_, ?_, trivial⟩ ?_
            rotate_right
            · intro t W hG hE
              have e19 := valsE_get (hE 19 (by decide)) rfl
              have HG' := hide hG
              clear hE hG
              simp only [fill, Act.put, List.setIfInBounds_toArray, List.set_cons_zero, List.set_cons_succ, e19]
              clear e19
              cases hm with
              | true =>
                have Hr := hide (Hrt.out (by trivial))
                have HBf := hide (HB1.out.trans (HG'.out.mono HB1.out.size))
                clear HNk
                go_wp2
                go_ret
                exact ⟨by rw [Hr.out]; rfl, HBf.out⟩
              | false =>
                have Hn := hide (Hrn.out (by trivial))
                clear HNk Hrt Hrn
                go_wp2
                go_roundw
                case rel =>
                  first
                  | exact ⟨k + 1, by omega, by go_num, Hn, HG'⟩
                  | ((try rw [← Hpa.out]); (repeat apply Exists.intro); refine ⟨?_, rfl⟩; exact ⟨k + 1, by omega, by go_num, Hn, HG'⟩)
                case measure => simp [intOf]; omega
            all_goals intro t W hG hp K hK
            all_goals simp only [fill, Act.put, List.setIfInBounds_toArray, List.set_cons_zero, List.set_cons_succ] at hK ⊢
            · have bN := Hbn.out.below hG Hbn.out.lt
              have x0 := bN.cell 0
              have x1 := bN.cell 1
              have x2 := bN.cell 2
              have x3 := bN.cell 3
              have x4 := bN.cell 4
              simp [NetM.cells, Mat.val] at x0 x1 x2 x3 x4
              rw [if_pos (by rfl)]
              go_simp
              exact hK _ W hG rfl (fun _ _ _ h => h)
            · rw [if_pos (by rfl)]
              go_simp
              exact hK _ W hG rfl (fun _ _ _ h => h)
            · have e1 := valsE_get (hp 1 (by decide)) rfl
              have x1 := HT1.out W hG
              simp only [e1] at hK ⊢
              rw [if_pos (by rfl)]
              go_simp
              exact hK _ W hG rfl (fun _ _ _ h => h)
            · rw [if_pos (by rfl)]
              go_simp
              exact hK _ W hG rfl (fun _ _ _ h => h)
            · have e2 := valsE_get (hp 2 (by decide)) rfl
              have e3 := valsE_get (hp 3 (by decide)) rfl
              simp only [e2, e3] at hK ⊢
              rw [if_pos (by rfl)]
              go_simp
              exact hK _ W hG rfl (fun _ _ _ h => h)
            · have e4 := valsE_get (hp 4 (by decide)) rfl
              have x1 := HF1.out W hG
              simp only [e4] at hK ⊢
              rw [if_pos (by rfl)]
              go_simp
              exact hK _ W hG rfl (fun _ _ _ h => h)
            · have e0 := valsE_get (hp 0 (by decide)) rfl
              have e5 := valsE_get (hp 5 (by decide)) rfl
              simp only [NetM.val, NetM.cells, Mat.val] at e0
              simp only [e0, e5] at hK ⊢
              rw [if_pos (by rfl)]
              go_simp
              go_at_call 55
              refine (HNk.out W).mono ?_
              rintro e W' ⟨rfl, rfl⟩
              go_simp
              exact hK _ _ (hG.alloc hG.size _) rfl (fun _ _ _ h => h)
            · have e6 := valsE_get (hp 6 (by decide)) rfl
              simp only [e6] at hK ⊢
              rw [if_pos (by rfl)]
              go_simp
              exact hK _ W hG rfl (fun _ _ _ h => h)
            · have e7 := valsE_get (hp 7 (by decide)) rfl
              simp only [e7] at hK ⊢
              rw [if_pos (by rfl)]
              go_simp
              exact hK _ W hG rfl (fun _ _ _ h => h)
            · have e8 := valsE_get (hp 8 (by decide)) rfl
              simp only [e8] at hK ⊢
              rw [if_pos (by rfl)]
              go_simp
              exact hK _ W hG rfl (fun _ _ _ h => h)
            · have e8 := valsE_get (hp 8 (by decide)) rfl
              have e9 := valsE_get (hp 9 (by decide)) rfl
              have x1 := HT1.out W hG
              simp only [e8, e9] at hK ⊢
              rw [if_pos (by rfl)]
              go_simp
              exact hK _ W hG rfl (fun _ _ _ h => h)
            · have e8 := valsE_get (hp 8 (by decide)) rfl
              simp only [e8] at hK ⊢
              rw [if_pos (by rfl)]
              go_simp
              exact hK _ W hG rfl (fun _ _ _ h => h)
            · have e8 := valsE_get (hp 8 (by decide)) rfl
              have e10 := valsE_get (hp 10 (by decide)) rfl
              have e11 := valsE_get (hp 11 (by decide)) rfl
              simp only [e8, e10, e11] at hK ⊢
              rw [if_pos (by rfl)]
              go_simp
              exact hK _ W hG rfl (fun _ _ _ h => h)
            · have e8 := valsE_get (hp 8 (by decide)) rfl
              simp only [e8] at hK ⊢
              rw [if_pos (by rfl)]
              go_simp
              exact hK _ W hG rfl (fun _ _ _ h => h)
            · have e8 := valsE_get (hp 8 (by decide)) rfl
              have e13 := valsE_get (hp 13 (by decide)) rfl
              have x1 := HT1.out W hG
              simp only [e8, e13] at hK ⊢
              rw [if_pos (by rfl)]
              go_simp
              exact hK _ W hG rfl (fun _ _ _ h => h)
            · have e8 := valsE_get (hp 8 (by decide)) rfl
              simp only [e8] at hK ⊢
              rw [if_pos (by rfl)]
              go_simp
              exact hK _ W hG rfl (fun _ _ _ h => h)
            · have e8 := valsE_get (hp 8 (by decide)) rfl
              have e14 := valsE_get (hp 14 (by decide)) rfl
              have e15 := valsE_get (hp 15 (by decide)) rfl
              simp only [e8, e14, e15] at hK ⊢
              rw [if_pos (by rfl)]
              go_simp
              exact hK _ W hG rfl (fun _ _ _ h => h)
            · have e8 := valsE_get (hp 8 (by decide)) rfl
              have e16 := valsE_get (hp 16 (by decide)) rfl
              have x1 := HF1.out W hG
              simp only [e8, e16] at hK ⊢
              rw [if_pos (by rfl)]
              go_simp
              exact hK _ W hG rfl (fun _ _ _ h => h)
            · have e8 := valsE_get (hp 8 (by decide)) rfl
              have e12 := valsE_get (hp 12 (by decide)) rfl
              have e17 := valsE_get (hp 17 (by decide)) rfl
              simp only [e8, e12, e17] at hK ⊢
              rw [if_pos (by rfl)]
              go_simp
              go_at_call 62
              refine (HHs.out W hG).mono ?_
              rintro e W' ⟨rfl, rfl⟩
              go_simp
              exact hK _ _ hG rfl (fun _ _ _ h => h)
            · have e8 := valsE_get (hp 8 (by decide)) rfl
              have e18 := valsE_get (hp 18 (by decide)) rfl
              simp only [e8, e18] at hK ⊢
              rw [if_pos (by rfl)]
              go_simp
              exact hK _ W hG rfl (fun _ _ _ h => h)
        · have hki : (r.l : Int) ≤ (k : Int) := by omega
          have Hr : Hid (rg = decide (0 < r.l)) := hide (by
            rw [Hr0.out, rowIn_iff.2 (fun c hc => (Hall.out c (by omega)).1), twice_not (fun c hc => (Hall.out c (by omega)).2)]
            simp)
          have HBf := hide (HB1.out.trans (HD.out.mono HB1.out.size))
          go_wp2
          go_ret
          exact ⟨by rw [Hr.out]; by_cases e : r.l = 0 <;> simp [e], HBf.out⟩

end Go.Proofs.Ytjhkadffaephmab
