/-
  Our own texts, bundled: a claim holds few files.
-/
import Derived.Test.YtjhkadffaephmabBundleEI
import Derived.Test.YtjhkadffaephmabBundleDI
import Derived.Test.YtjhkadffaephmabBundleBI
/-
  signpostref.IsRight.
-/
namespace Go.Proofs.Ytjhkadffaephmab
set_option maxRecDepth 100000
open Go.RowKit

theorem twice_at {l k : Nat} {f : Nat → Int} (hk : k < l) (h : f k ∈ listOf k f) : twiceIn (listOf l f) = true := by
  rw [← any_twice, List.any_eq_true]
  exact ⟨k, List.mem_range.2 hk, by simpa using h⟩
theorem twice_not {l : Nat} {f : Nat → Int} (h : ∀ k, k < l → f k ∉ listOf k f) : twiceIn (listOf l f) = false := by
  rw [← any_twice, List.any_eq_false]
  intro k hk
  have := h k (List.mem_range.1 hk)
  simpa using this
theorem Net.right_ref {n : Net} {r : RtM} (h : (decide (0 ≤ r.w) && decide (r.w < n.a.size)) = true) (hv : n.valid r.rt = true) :
    n.right r.rt = (decide (0 < r.l) && (rowIn r.l r.f n.nodes && !twiceIn (listOf r.l r.f))) := by
  unfold Net.right
  rw [if_pos hv, show (decide (0 ≤ r.rt.w) && decide (r.rt.w < n.a.size)) = true from h, Bool.true_and, show r.rt.p = listOf r.l r.f from rfl, all_rowIn, Bool.and_assoc]
  congr 1
  have := listOf_length r.l r.f
  cases hl : listOf r.l r.f with
  | nil => rw [hl] at this; simp at this; simp [← this]
  | cons a t => rw [hl] at this; simp at this; simp; omega

set_option maxHeartbeats 4000000 in
theorem refRight_any (n : NetM) (r : RtM) (w : World) (h : r.In w.heap.size w) (hck : n.net.check = 0) (hq : r.l ≤ r.q ∧ r.q ≤ maxLen) :
    Calls Try.prog 35 #[n.val, r.val] w fun e w' => e = .returned (.bool (n.net.right r.rt)) ∧ Below w.heap.size w w' := by
  have g := Net.good_of_check hck
  have hs2 : 2 ≤ n.a.size := g.law.good.lo
  have hs24 : n.a.size ≤ 24 := g.law.good.hi
  have hn1 : 1 ≤ n.nodes := g.lo
  have hn6 : n.nodes ≤ 6 := g.hi
  have hlen := h.ints.len
  unfold maxLen at hlen hq
  obtain ⟨W1, hW1⟩ : ∃ W1, W1 = (w.alloc (.cells n.cells 41)).alloc (.cells r.cells 71) := ⟨_, rfl⟩
  have hB1 : Below w.heap.size w W1 := by rw [hW1]; exact ((Below.refl _ w).alloc (Nat.le_refl _) _).alloc (by simp) _
  have bn : Blk W1 w.heap.size n.cells 41 := by rw [hW1]; exact (Blk.new w _ _).alloc _
  have br : Blk W1 (w.heap.size + 1) r.cells 71 := by rw [hW1]; exact Blk.new' (by simp)
  have HBt := hide (fun W => between_any r.w 0 (n.a.size - 1) W)
  have hbe : (decide (0 ≤ r.w) && decide (r.w ≤ n.a.size - 1)) = (decide (0 ≤ r.w) && decide (r.w < n.a.size)) := by
    congr 1
    exact decide_eq_decide.2 (by omega)
  rw [hbe] at HBt
  have Hout := hide (Net.right_out (n := n.net) (r := r.rt))
  have Hinv := hide (Net.right_inv (n := n.net) (r := r.rt))
  have Hval := hide (Net.right_ref (n := n.net) (r := r))
  have e1 : r.rt.w = r.w := rfl
  have e2 : r.rt.p = listOf r.l r.f := rfl
  have e3 : n.net.a.size = n.a.size := rfl
  have e4 : n.net.nodes = n.nodes := rfl
  rw [e1, e3] at Hout
  rw [e1, e3, e2, listOf_length] at Hinv
  rw [e3, e4] at Hval
  have Hvd : Hid (n.net.valid r.rt = (r.w != n.a.size - 1)) := hide rfl
  have HI := hide (fun W (hb : Below w.heap.size w W) => h.below hb (Nat.le_refl _))
  clear e1 e2 e3 e4 g hck h hbe
  generalize n.net.right r.rt = rg at *
  generalize n.net.valid r.rt = vd at *
  generalize (decide (0 ≤ r.w) && decide (r.w < n.a.size)) = wi at *
  have x0 := bn.cell 0
  have y0 := br.cell 0
  have y1 := br.cell 1
  simp [NetM.cells, RtM.cells] at x0 y0 y1
  have HB1 := hide hB1
  have Hbn := hide bn
  have Hbr := hide br
  have HNk0 := hide (fun (i : Int) (W : World) => isNode_any n i W hn1 hn6)
  simp only [NetM.val, NetM.cells, Mat.val, RtM.val, RtM.cells] at hW1 HNk0 ⊢
  clear hB1 bn br
  go_enter Try.func35, Try.ntmps35
  rw [hW1] at x0 y0 y1
  go_wp2_with fail
  rw [← hW1] at x0 y0 y1 ⊢
  clear hW1
  go_at_call 99
  refine (HBt.out W1).mono ?_
  rintro e w2 ⟨rfl, rfl⟩
  cases wi with
  | false =>
    have Hr := hide (Hout.out (by trivial))
    clear Hout Hinv Hval
    go_wp2
    go_ret
    exact ⟨by rw [Hr.out]; rfl, HB1.out⟩
  | true =>
    clear Hout
    by_cases hv : r.w = n.a.size - 1
    · have hv' : (r.w == n.a.size - 1) = true := by simp [hv]
      have Hr := hide (Hinv.out (by trivial) (by rw [Hvd.out]; simp [hv]))
      clear Hinv Hval hv
      go_wp2
      go_ret
      exact ⟨by rw [Hr.out]; by_cases e : r.l = 0 <;> simp [e], HB1.out⟩
    · have hv' : (r.w == n.a.size - 1) = false := by simp [hv]
      have Hr0 := hide (Hval.out (by trivial) (by rw [Hvd.out]; simp [hv]))
      have HT0 : Hid (∀ W, Below w2.heap.size w2 W → W.cell? ⟨w.heap.size + 1, 1, none⟩ = some (.slice r.pa r.l r.q)) := hide (fun W hb => by
        have := (Hbr.out.below hb Hbr.out.lt).cell 1
        simpa [RtM.cells] using this)
      clear Hinv Hval hv Hvd y1
      go_wp2_with fail
      go_loopw [5] (fun q wr => ∃ k : Nat, k ≤ r.l ∧ q = .int .i64 k ∧ Hid (∀ c, c < k → (0 ≤ r.f c ∧ r.f c < n.nodes) ∧ r.f c ∉ listOf c r.f) ∧ Hid (Below w2.heap.size w2 wr)) (fun q _ => r.l - (intOf q).toNat)
      case atStart => exact ⟨0, Nat.zero_le _, rfl, hide fun c hc => absurd hc (Nat.not_lt_zero _), hide (Below.refl _ _)⟩
      case round =>
        obtain ⟨k, hk, rfl, Hall, HD⟩ := hrel
        have z1 := HT0.out wr HD.out
        by_cases hlt : k < r.l
        · have hki : (k : Int) < (r.l : Int) := by omega
          have hkq : (k : Int) ≤ (r.q : Int) := by omega
          have hpa := (HI.out w (Below.refl _ _)).ints.addr (by omega)
          have HT1 : Hid (∀ W, Below w2.heap.size w2 W → W.cell? ⟨w.heap.size + 1, 1, none⟩ = some (.slice (some ⟨r.b, r.o, none⟩) r.l r.q)) := hide (fun W hb => by rw [HT0.out W hb, hpa])
          have HF1 : Hid (∀ W, Below w2.heap.size w2 W → W.cell? ⟨r.b, r.o + k, none⟩ = some (.int .i64 (r.f k))) := hide (fun W hb => (HI.out W (HB1.out.trans (hb.mono HB1.out.size))).ints.cell k hlt)
          have HHs := hide (fun W (hb : Below w2.heap.size w2 W) => has_ints (some ⟨r.b, r.o, none⟩) k r.q r.b r.o r.f (r.f k) W ⟨fun _ => rfl, fun i hi => (HI.out W (HB1.out.trans (hb.mono HB1.out.size))).ints.cell i (by omega), by unfold maxLen; omega⟩)
          have HNk := hide (HNk0.out (r.f k))
          have Hnode : Hid ((decide (0 ≤ r.f k) && decide (r.f k ≤ n.nodes - 1)) = true → 0 ≤ r.f k ∧ r.f k < n.nodes) := hide (fun e => by simp at e; omega)
          have Hstray : Hid ((decide (0 ≤ r.f k) && decide (r.f k ≤ n.nodes - 1)) = false → rg = false) := hide (fun e => by
            have : rowIn r.l r.f n.nodes = false := by
              cases e1 : rowIn r.l r.f n.nodes with
              | false => rfl
              | true =>
                have := rowIn_iff.1 e1 k hlt
                simp at e
                omega
            rw [Hr0.out, this]
            simp)
          have Hrt0 : Hid (decide (r.f k ∈ listOf k r.f) = true → rg = false) := hide (fun e => by
            rw [Hr0.out, twice_at hlt (by simpa using e)]
            simp)
          have Hrn0 : Hid (decide (r.f k ∈ listOf k r.f) = false → r.f k ∉ listOf k r.f) := hide (fun e => by simpa using e)
          generalize (decide (0 ≤ r.f k) && decide (r.f k ≤ n.nodes - 1)) = nd at *
          generalize decide (r.f k ∈ listOf k r.f) = hm at *
          rw [hpa] at z1
          have Hpa := hide hpa
          clear hpa HNk0 HT0 HI Hbr
          cases nd with
          | false =>
            have Hr := hide (Hstray.out (by trivial))
            clear Hstray Hnode Hrt0 Hrn0
            go_wp2_with fail
            refine wp_region_only (fun W => Below w2.heap.size w2 W) (valsE [n.val, .pointer (some ⟨w.heap.size + 1, 1, none⟩), .slice (some ⟨r.b, r.o, none⟩) r.l r.q, .int .i64 k, .pointer (some ⟨r.b, r.o + k, none⟩), .int .i64 (r.f k), .bool false, .bool true, .bool true, undef, undef, undef, undef, undef, undef, undef, undef, undef, undef, .bool true]) (by kernel_rfl) (by kernel_rfl) (by kernel_rfl) (below_drewN HD.out 1) ⟨?_, ?_, ?_, ?_, ?_, ?_, ?_, ?_, ?_, ?_, ?_, ?_, ?_, ?_, ?_, ?_, ?_, ?_, ?_, ?_, trivial⟩ ?_
            rotate_right
            · intro t W hG hE
              have e19 := valsE_get (hE 19 (by decide)) rfl
              have HG' := hide hG
              clear hE hG
              simp only [fill, Act.put, List.setIfInBounds_toArray, List.set_cons_zero, List.set_cons_succ, e19]
              clear e19
              have HBf := hide (HB1.out.trans (HG'.out.mono HB1.out.size))
              clear HNk
              go_wp2
              go_ret
              exact ⟨by rw [Hr.out]; rfl, HBf.out⟩
            all_goals intro t W hG hp K hK
            all_goals simp only [fill, Act.put, List.setIfInBounds_toArray, List.set_cons_zero, List.set_cons_succ] at hK ⊢
            · have bN := Hbn.out.below hG Hbn.out.lt
              have x0 := bN.cell 0
              have x1 := bN.cell 1
              have x2 := bN.cell 2
              have x3 := bN.cell 3
              have x4 := bN.cell 4
              simp [NetM.cells, Mat.val] at x0 x1 x2 x3 x4
              rw [if_pos (by rfl)]
              go_simp
              exact hK _ W hG rfl (fun _ _ _ h => h)
            · rw [if_pos (by rfl)]
              go_simp
              exact hK _ W hG rfl (fun _ _ _ h => h)
            · have e1 := valsE_get (hp 1 (by decide)) rfl
              have x1 := HT1.out W hG
              simp only [e1] at hK ⊢
              rw [if_pos (by rfl)]
              go_simp
              exact hK _ W hG rfl (fun _ _ _ h => h)
            · rw [if_pos (by rfl)]
              go_simp
              exact hK _ W hG rfl (fun _ _ _ h => h)
            · have e2 := valsE_get (hp 2 (by decide)) rfl
              have e3 := valsE_get (hp 3 (by decide)) rfl
              simp only [e2, e3] at hK ⊢
              rw [if_pos (by rfl)]
              go_simp
              exact hK _ W hG rfl (fun _ _ _ h => h)
            · have e4 := valsE_get (hp 4 (by decide)) rfl
              have x1 := HF1.out W hG
              simp only [e4] at hK ⊢
              rw [if_pos (by rfl)]
              go_simp
              exact hK _ W hG rfl (fun _ _ _ h => h)
            · have e0 := valsE_get (hp 0 (by decide)) rfl
              have e5 := valsE_get (hp 5 (by decide)) rfl
              simp only [NetM.val, NetM.cells, Mat.val] at e0
              simp only [e0, e5] at hK ⊢
              rw [if_pos (by rfl)]
              go_simp
              go_at_call 55
              refine (HNk.out W).mono ?_
              rintro e W' ⟨rfl, rfl⟩
              go_simp
              exact hK _ _ (hG.alloc hG.size _) rfl (fun _ _ _ h => h)
            · have e6 := valsE_get (hp 6 (by decide)) rfl
              simp only [e6] at hK ⊢
              rw [if_pos (by rfl)]
              go_simp
              exact hK _ W hG rfl (fun _ _ _ h => h)
            · have e7 := valsE_get (hp 7 (by decide)) rfl
              simp only [e7] at hK ⊢
              rw [if_pos (by rfl)]
              go_simp
              exact hK _ W hG rfl (fun _ _ _ h => h)
            · have e8 := valsE_get (hp 8 (by decide)) rfl
              simp only [e8] at hK ⊢
              rw [if_neg (by intro hh; exact absurd (show false = true from hh) (by decide))]
              exact hK undef W hG rfl (fun _ _ _ h => h)
            · have e8 := valsE_get (hp 8 (by decide)) rfl
              simp only [e8] at hK ⊢
              rw [if_neg (by intro hh; exact absurd (show false = true from hh) (by decide))]
              exact hK undef W hG rfl (fun _ _ _ h => h)
            · have e8 := valsE_get (hp 8 (by decide)) rfl
              simp only [e8] at hK ⊢
              rw [if_neg (by intro hh; exact absurd (show false = true from hh) (by decide))]
              exact hK undef W hG rfl (fun _ _ _ h => h)
            · have e8 := valsE_get (hp 8 (by decide)) rfl
              simp only [e8] at hK ⊢
              rw [if_neg (by intro hh; exact absurd (show false = true from hh) (by decide))]
              exact hK undef W hG rfl (fun _ _ _ h => h)
            · have e8 := valsE_get (hp 8 (by decide)) rfl
              simp only [e8] at hK ⊢
              rw [if_neg (by intro hh; exact absurd (show false = true from hh) (by decide))]
              exact hK undef W hG rfl (fun _ _ _ h => h)
            · have e8 := valsE_get (hp 8 (by decide)) rfl
              simp only [e8] at hK ⊢
              rw [if_neg (by intro hh; exact absurd (show false = true from hh) (by decide))]
              exact hK undef W hG rfl (fun _ _ _ h => h)
            · have e8 := valsE_get (hp 8 (by decide)) rfl
              simp only [e8] at hK ⊢
              rw [if_neg (by intro hh; exact absurd (show false = true from hh) (by decide))]
              exact hK undef W hG rfl (fun _ _ _ h => h)
            · have e8 := valsE_get (hp 8 (by decide)) rfl
              simp only [e8] at hK ⊢
              rw [if_neg (by intro hh; exact absurd (show false = true from hh) (by decide))]
              exact hK undef W hG rfl (fun _ _ _ h => h)
            · have e8 := valsE_get (hp 8 (by decide)) rfl
              simp only [e8] at hK ⊢
              rw [if_neg (by intro hh; exact absurd (show false = true from hh) (by decide))]
              exact hK undef W hG rfl (fun _ _ _ h => h)
            · have e8 := valsE_get (hp 8 (by decide)) rfl
              simp only [e8] at hK ⊢
              rw [if_neg (by intro hh; exact absurd (show false = true from hh) (by decide))]
              exact hK undef W hG rfl (fun _ _ _ h => h)
            · have e8 := valsE_get (hp 8 (by decide)) rfl
              have e18 := valsE_get (hp 18 (by decide)) rfl
              simp only [e8, e18] at hK ⊢
              rw [if_pos (by rfl)]
              go_simp
              exact hK _ W hG rfl (fun _ _ _ h => h)
          | true =>
            have Hrt : Hid (hm = true → rg = false) := Hrt0
            have Hrn : Hid (hm = false → ∀ c, c < k + 1 → (0 ≤ r.f c ∧ r.f c < n.nodes) ∧ r.f c ∉ listOf c r.f) := hide (fun e c hc => by
              by_cases e1 : c = k
              · subst e1; exact ⟨Hnode.out (by trivial), Hrn0.out e⟩
              · exact Hall.out c (by omega))
            clear Hstray Hnode Hrt0 Hrn0
            go_wp2_with fail
            refine wp_region_only (fun W => Below w2.heap.size w2 W) (valsE [n.val, .pointer (some ⟨w.heap.size + 1, 1, none⟩), .slice (some ⟨r.b, r.o, none⟩) r.l r.q, .int .i64 k, .pointer (some ⟨r.b, r.o + k, none⟩), .int .i64 (r.f k), .bool true, .bool false, .bool false, .pointer (some ⟨w.heap.size + 1, 1, none⟩), .slice (some ⟨r.b, r.o, none⟩) r.l r.q, .int .i64 k, .slice (some ⟨r.b, r.o, none⟩) k r.q, .pointer (some ⟨w.heap.size + 1, 1, none⟩), .slice (some ⟨r.b, r.o, none⟩) r.l r.q, .int .i64 k, .pointer (some ⟨r.b, r.o + k, none⟩), .int .i64 (r.f k), .bool hm, .bool hm]) (by kernel_rfl) (by kernel_rfl) (by kernel_rfl) (below_drewN HD.out 1) ⟨?_, ?_, ?_, ?_, ?_, ?_, ?_, ?_, ?_, ?_, ?_, ?_, ?_, ?_, ?_, ?_, ?_, ?_, ?_, ?_, trivial⟩ ?_
            rotate_right
            · intro t W hG hE
              have e19 := valsE_get (hE 19 (by decide)) rfl
              have HG' := hide hG
              clear hE hG
              simp only [fill, Act.put, List.setIfInBounds_toArray, List.set_cons_zero, List.set_cons_succ, e19]
              clear e19
              cases hm with
              | true =>
                have Hr := hide (Hrt.out (by trivial))
                have HBf := hide (HB1.out.trans (HG'.out.mono HB1.out.size))
                clear HNk
                go_wp2
                go_ret
                exact ⟨by rw [Hr.out]; rfl, HBf.out⟩
              | false =>
                have Hn := hide (Hrn.out (by trivial))
                clear HNk Hrt Hrn
                go_wp2
                go_roundw
                case rel =>
                  first
                  | exact ⟨k + 1, by omega, by go_num, Hn, HG'⟩
                  | ((try rw [← Hpa.out]); (repeat apply Exists.intro); refine ⟨?_, rfl⟩; exact ⟨k + 1, by omega, by go_num, Hn, HG'⟩)
                case measure => simp [intOf]; omega
            all_goals intro t W hG hp K hK
            all_goals simp only [fill, Act.put, List.setIfInBounds_toArray, List.set_cons_zero, List.set_cons_succ] at hK ⊢
            · have bN := Hbn.out.below hG Hbn.out.lt
              have x0 := bN.cell 0
              have x1 := bN.cell 1
              have x2 := bN.cell 2
              have x3 := bN.cell 3
              have x4 := bN.cell 4
              simp [NetM.cells, Mat.val] at x0 x1 x2 x3 x4
              rw [if_pos (by rfl)]
              go_simp
              exact hK _ W hG rfl (fun _ _ _ h => h)
            · rw [if_pos (by rfl)]
              go_simp
              exact hK _ W hG rfl (fun _ _ _ h => h)
            · have e1 := valsE_get (hp 1 (by decide)) rfl
              have x1 := HT1.out W hG
              simp only [e1] at hK ⊢
              rw [if_pos (by rfl)]
              go_simp
              exact hK _ W hG rfl (fun _ _ _ h => h)
            · rw [if_pos (by rfl)]
              go_simp
              exact hK _ W hG rfl (fun _ _ _ h => h)
            · have e2 := valsE_get (hp 2 (by decide)) rfl
              have e3 := valsE_get (hp 3 (by decide)) rfl
              simp only [e2, e3] at hK ⊢
              rw [if_pos (by rfl)]
              go_simp
              exact hK _ W hG rfl (fun _ _ _ h => h)
            · have e4 := valsE_get (hp 4 (by decide)) rfl
              have x1 := HF1.out W hG
              simp only [e4] at hK ⊢
              rw [if_pos (by rfl)]
              go_simp
              exact hK _ W hG rfl (fun _ _ _ h => h)
            · have e0 := valsE_get (hp 0 (by decide)) rfl
              have e5 := valsE_get (hp 5 (by decide)) rfl
              simp only [NetM.val, NetM.cells, Mat.val] at e0
              simp only [e0, e5] at hK ⊢
              rw [if_pos (by rfl)]
              go_simp
              go_at_call 55
              refine (HNk.out W).mono ?_
              rintro e W' ⟨rfl, rfl⟩
              go_simp
              exact hK _ _ (hG.alloc hG.size _) rfl (fun _ _ _ h => h)
            · have e6 := valsE_get (hp 6 (by decide)) rfl
              simp only [e6] at hK ⊢
              rw [if_pos (by rfl)]
              go_simp
              exact hK _ W hG rfl (fun _ _ _ h => h)
            · have e7 := valsE_get (hp 7 (by decide)) rfl
              simp only [e7] at hK ⊢
              rw [if_pos (by rfl)]
              go_simp
              exact hK _ W hG rfl (fun _ _ _ h => h)
            · have e8 := valsE_get (hp 8 (by decide)) rfl
              simp only [e8] at hK ⊢
              rw [if_pos (by rfl)]
              go_simp
              exact hK _ W hG rfl (fun _ _ _ h => h)
            · have e8 := valsE_get (hp 8 (by decide)) rfl
              have e9 := valsE_get (hp 9 (by decide)) rfl
              have x1 := HT1.out W hG
              simp only [e8, e9] at hK ⊢
              rw [if_pos (by rfl)]
              go_simp
              exact hK _ W hG rfl (fun _ _ _ h => h)
            · have e8 := valsE_get (hp 8 (by decide)) rfl
              simp only [e8] at hK ⊢
              rw [if_pos (by rfl)]
              go_simp
              exact hK _ W hG rfl (fun _ _ _ h => h)
            · have e8 := valsE_get (hp 8 (by decide)) rfl
              have e10 := valsE_get (hp 10 (by decide)) rfl
              have e11 := valsE_get (hp 11 (by decide)) rfl
              simp only [e8, e10, e11] at hK ⊢
              rw [if_pos (by rfl)]
              go_simp
              exact hK _ W hG rfl (fun _ _ _ h => h)
            · have e8 := valsE_get (hp 8 (by decide)) rfl
              simp only [e8] at hK ⊢
              rw [if_pos (by rfl)]
              go_simp
              exact hK _ W hG rfl (fun _ _ _ h => h)
            · have e8 := valsE_get (hp 8 (by decide)) rfl
              have e13 := valsE_get (hp 13 (by decide)) rfl
              have x1 := HT1.out W hG
              simp only [e8, e13] at hK ⊢
              rw [if_pos (by rfl)]
              go_simp
              exact hK _ W hG rfl (fun _ _ _ h => h)
            · have e8 := valsE_get (hp 8 (by decide)) rfl
              simp only [e8] at hK ⊢
              rw [if_pos (by rfl)]
              go_simp
              exact hK _ W hG rfl (fun _ _ _ h => h)
            · have e8 := valsE_get (hp 8 (by decide)) rfl
              have e14 := valsE_get (hp 14 (by decide)) rfl
              have e15 := valsE_get (hp 15 (by decide)) rfl
              simp only [e8, e14, e15] at hK ⊢
              rw [if_pos (by rfl)]
              go_simp
              exact hK _ W hG rfl (fun _ _ _ h => h)
            · have e8 := valsE_get (hp 8 (by decide)) rfl
              have e16 := valsE_get (hp 16 (by decide)) rfl
              have x1 := HF1.out W hG
              simp only [e8, e16] at hK ⊢
              rw [if_pos (by rfl)]
              go_simp
              exact hK _ W hG rfl (fun _ _ _ h => h)
            · have e8 := valsE_get (hp 8 (by decide)) rfl
              have e12 := valsE_get (hp 12 (by decide)) rfl
              have e17 := valsE_get (hp 17 (by decide)) rfl
              simp only [e8, e12, e17] at hK ⊢
              rw [if_pos (by rfl)]
              go_simp
              go_at_call 62
              refine (HHs.out W hG).mono ?_
              rintro e W' ⟨rfl, rfl⟩
              go_simp
              exact hK _ _ hG rfl (fun _ _ _ h => h)
            · have e8 := valsE_get (hp 8 (by decide)) rfl
              have e18 := valsE_get (hp 18 (by decide)) rfl
              simp only [e8, e18] at hK ⊢
              rw [if_pos (by rfl)]
              go_simp
              exact hK _ W hG rfl (fun _ _ _ h => h)
        · have hki : (r.l : Int) ≤ (k : Int) := by omega
          have Hr : Hid (rg = decide (0 < r.l)) := hide (by
            rw [Hr0.out, rowIn_iff.2 (fun c hc => (Hall.out c (by omega)).1), twice_not (fun c hc => (Hall.out c (by omega)).2)]
            simp)
          have HBf := hide (HB1.out.trans (HD.out.mono HB1.out.size))
          go_wp2
          go_ret
          exact ⟨by rw [Hr.out]; by_cases e : r.l = 0 <;> simp [e], HBf.out⟩

end Go.Proofs.Ytjhkadffaephmab

/-
  signpostref.FitPaths.
-/
namespace Go.Proofs.Ytjhkadffaephmab
set_option maxRecDepth 100000
open Go.RowKit

theorem Net.fits_inv {n : Net} {i j : Nat} {r : Rt} (hr : n.right r = true) (hv : n.valid r = false) : n.fits i j r = true := by
  unfold Net.fits Net.leadsR Net.begR
  rw [hr, hv]
  rfl
theorem Net.fits_val {n : Net} {i j l : Nat} {r : RtM} (hr : n.right r.rt = true) (hv : n.valid r.rt = true) (hl : r.l = l + 1) : n.fits i j r.rt = ((r.f 0 == (i : Int)) && (r.f l == (j : Int))) := by
  unfold Net.fits Net.leadsR Net.begR
  have e2 : r.rt.p = listOf r.l r.f := rfl
  rw [hr, hv, e2, hl, listOf_last]
  simp only [Bool.not_true, Bool.false_or, Bool.true_and]
  rw [listOf_cons]
  rfl

set_option maxHeartbeats 4000000 in
theorem fitPaths_any (n : NetM) (x : RMat) (w : World) (h : n.In w.heap.size w) (hx : x.In w.heap.size w) (hq : x.Caps) :
    Calls Try.prog 43 #[n.val, x.val] w fun e w' => e = .returned (.int .i64 (n.net.pfit x.t)) ∧ Below w.heap.size w w' := by
  have hlen := hx.tall
  unfold maxLen at hlen
  have hB0 : Below w.heap.size w (w.alloc (.cells n.cells 41)) := (Below.refl _ w).alloc (Nat.le_refl _) _
  have b0 := Blk.new w n.cells 41
  have HC := hide (refNet_any n _ (h.grown hB0))
  have HRt := hide (fun (i j : Nat) (hi : i < x.len) (hj : j < x.L i) (hc : n.net.check = 0) W (hb : Below w.heap.size w W) => refRight_any n (x.R i j) W ((hx.grown hb).rt i hi j hj) hc (hq i hi j hj))
  have HVd := hide (fun (i j : Nat) (hc : n.net.check = 0) W => refValid_any n (x.R i j) W (Net.good_of_check hc).law.good.lo (Net.good_of_check hc).law.good.hi)
  have Hgd := hide (fun (e : n.net.check = 0) => Net.good_of_check e)
  have HX := hide hx
  have Hdef : Hid (n.net.pfit x.t = if n.net.check ≠ 0 then n.net.check else if (x.len : Int) ≠ n.nodes ∨ x.t.wide n.nodes = false then 1 else if n.net.fitsAll x.t = true then 0 else 4) := hide rfl
  generalize n.net.check = ck at *
  simp only [NetM.val, NetM.cells, Mat.val, RMat.val, RtM.val, RtM.cells] at HC HRt HVd ⊢
  clear h hx
  by_cases hc : ck = 0
  rotate_left
  · have hc' : (ck != 0) = true := by simp [hc]
    have He : Hid (n.net.pfit x.t = ck) := hide (by rw [Hdef.out, if_pos hc])
    clear hc Hdef b0 Hgd
    go_enter Try.func43, Try.ntmps43
    go_wp2_with fail
    go_at_call 34
    refine HC.out.mono ?_
    rintro e w1 ⟨rfl, hb1⟩
    have HB1 := hide (hB0.trans (hb1.mono hB0.size))
    clear hb1 HC hB0
    go_wp2
    go_ret
    exact ⟨by rw [He.out]; rfl, HB1.out⟩
  subst hc
  have Hlo : Hid (1 ≤ n.nodes ∧ n.nodes ≤ 6) := hide (by have g := Hgd.out rfl; exact ⟨g.lo, g.hi⟩)
  have Hdef1 : Hid (n.net.pfit x.t = if (x.len : Int) ≠ n.nodes ∨ x.t.wide n.nodes = false then 1 else if n.net.fitsAll x.t = true then 0 else 4) := hide (by rw [Hdef.out, if_neg (by simp)])
  clear Hdef Hgd
  go_enter Try.func43, Try.ntmps43
  go_wp2_with fail
  go_at_call 34
  refine HC.out.mono ?_
  rintro e W1 ⟨rfl, hb1⟩
  have HB1 := hide (hB0.trans (hb1.mono hB0.size))
  have Hbn := hide (b0.below hb1 b0.lt)
  have y3 := Hbn.out.cell 3
  simp [NetM.cells] at y3
  clear hb1 HC hB0 b0
  by_cases hl : (x.len : Int) = n.nodes
  rotate_left
  · have hl' : ((x.len : Int) != n.nodes) = true := by simp [hl]
    have hfin : Hid (n.net.pfit x.t = 1) := hide (by rw [Hdef1.out, if_pos (Or.inl hl)])
    clear hl Hdef1
    go_wp2
    go_ret
    exact ⟨by rw [hfin.out]; rfl, HB1.out⟩
  have hl' : ((x.len : Int) != (x.len : Int)) = false := by simp
  have HL := hide hl
  rw [← hl] at y3
  clear hl
  go_wp2_with fail
  go_loopw [6] (fun q wr => ∃ k : Nat, k ≤ x.len ∧ q = .int .i64 k ∧ Hid (∀ r, r < k → x.L r = x.len) ∧ Hid (∃ z, wr = W1.drewN z)) (fun q _ => x.len - (intOf q).toNat)
  case atStart => exact ⟨0, Nat.zero_le _, rfl, hide fun r hr => absurd hr (Nat.not_lt_zero _), hide ⟨0, rfl⟩⟩
  case round =>
    obtain ⟨k, hk, rfl, Hall, HD⟩ := hrel
    have z3 : wr.cell? ⟨w.heap.size, 3, none⟩ = some (.int .i64 x.len) := by obtain ⟨z, rfl⟩ := HD.out; exact y3
    have Hbw : Hid (Below W1.heap.size W1 wr) := hide (by obtain ⟨z, rfl⟩ := HD.out; exact below_drewN (Below.refl _ _) z)
    by_cases hlt : k < x.len
    · have hga := HX.out.ga (by omega)
      have hrow : wr.cell? ⟨x.gb, x.go + k, none⟩ = some (.slice (x.A k) (x.L k) (x.C k)) := (HX.out.below (HB1.out.trans (Hbw.out.mono HB1.out.size)) (Nat.le_refl _)).row k hlt
      have hlens := HX.out.lens k hlt
      unfold maxLen at hlens
      have hki : (k : Int) < (x.len : Int) := by omega
      by_cases he : x.L k = x.len
      · have he' : ((x.L k : Int) != (x.len : Int)) = false := by simp [he]
        have Hn : Hid (∀ r, r < k + 1 → x.L r = x.len) := hide (fun r hr => by
          by_cases e : r = k
          · subst e; exact he
          · exact Hall.out r (by omega))
        clear he Hbw
        go_wp2_with fail
        go_quiet (fail)
        go_wp2
        go_roundw
        case rel =>
          first
          | exact ⟨k + 1, by omega, by go_num, Hn, hide (by obtain ⟨m, rfl⟩ := HD.out; exact ⟨_, by rw [World.drewN_drewN]⟩)⟩
          | ((try rw [← hga]); (repeat apply Exists.intro); refine ⟨?_, rfl⟩; exact ⟨k + 1, by omega, by go_num, Hn, hide (by obtain ⟨m, rfl⟩ := HD.out; exact ⟨_, by rw [World.drewN_drewN]⟩)⟩)
        case measure => simp [intOf]; omega
      · have he' : ((x.L k : Int) != (x.len : Int)) = true := by simp; omega
        have hfin : Hid (n.net.pfit x.t = 1) := hide (by rw [Hdef1.out, if_pos (Or.inr (RTab.wide_false (t := x.t) hlt (by rw [← HL.out]; show ¬ (x.L k : Int) = _; omega)))])
        clear he
        go_wp2_with fail
        go_quiet (fail)
        go_wp2
        go_ret
        exact ⟨by rw [hfin.out]; rfl, HB1.out.trans ((below_drewN Hbw.out _).mono HB1.out.size)⟩
    · have hki : (x.len : Int) ≤ (k : Int) := by omega
      have Hw : Hid (x.t.wide n.nodes = true) := hide ((x.t.wide_iff n.nodes).2 (fun r hr => by
        have e1 := Hall.out r (by have : r < x.len := hr; omega)
        have e2 := HL.out
        show (x.L r : Int) = _
        rw [e1, e2]))
      have Hw2 : Hid (∀ r, r < x.len → x.L r = x.len) := hide (fun r hr => Hall.out r (by omega))
      have Hd2 : Hid (n.net.pfit x.t = if n.net.fitsAll x.t = true then 0 else 4) := hide (by rw [Hdef1.out, if_neg (by simp [HL.out, Hw.out])])
      clear Hdef1 Hw Hall
      obtain ⟨Wc, hWc⟩ : ∃ Wc, Wc = wr := ⟨wr, rfl⟩
      have HD1 : Hid (Below W1.heap.size W1 Wc) := by rw [hWc]; exact Hbw
      go_wp2_with fail
      rw [← hWc]
      clear hWc HD Hbw z3 y3
      go_loopw [7, 8, 9] (fun q _ _ wr => ∃ k : Nat, k ≤ x.len ∧ q = .int .i64 k ∧ Hid (∀ r, r < k → ∀ c, c < x.L r → n.net.fits r c (x.R r c).rt = true) ∧ Hid (Below W1.heap.size W1 wr)) (fun q _ _ _ => x.len - (intOf q).toNat)
      case atStart => exact ⟨0, Nat.zero_le _, rfl, hide fun r hr => absurd hr (Nat.not_lt_zero _), HD1⟩
      case round =>
        obtain ⟨i, hi, rfl, Hall, HD⟩ := hrel
        have bN := Hbn.out.below HD.out Hbn.out.lt
        have z3 := bN.cell 3
        simp [NetM.cells] at z3
        rw [← HL.out] at z3
        by_cases hil : i < x.len
        · have hii : (i : Int) < (x.len : Int) := by omega
          obtain ⟨Wd, hWd⟩ : ∃ Wd, Wd = wr := ⟨wr, rfl⟩
          have HD2 : Hid (Below W1.heap.size W1 Wd) := by rw [hWd]; exact HD
          go_wp2_with fail
          rw [← hWd]
          clear hWd HD HD1 bN z3
          go_loopw [8, 9] (fun q _ wr => ∃ c : Nat, c ≤ x.len ∧ q = .int .i64 c ∧ Hid (∀ c', c' < c → n.net.fits i c' (x.R i c').rt = true) ∧ Hid (Below W1.heap.size W1 wr)) (fun q _ _ => x.len - (intOf q).toNat)
          case atStart => exact ⟨0, Nat.zero_le _, rfl, hide fun r hr => absurd hr (Nat.not_lt_zero _), HD2⟩
          case round =>
            obtain ⟨j, hj, rfl, Hrow, HD⟩ := hrel
            clear HD2
            have hBw := HB1.out.trans (HD.out.mono HB1.out.size)
            by_cases hjl : j < x.len
            · have hji : (j : Int) < (x.len : Int) := by omega
              have hLi := Hw2.out i hil
              have hjL : j < x.L i := by omega
              obtain ⟨a0, a1, a2, a3⟩ := (HX.out.below hBw (Nat.le_refl _)).at hil hjL
              rw [hLi] at a1
              have bN0 := Hbn.out.below HD.out Hbn.out.lt
              have z3 := bN0.cell 3
              simp [NetM.cells] at z3
              rw [← HL.out] at z3
              have hBa : Below W1.heap.size W1 (wr.alloc (.cells (x.R i j).cells 71)) := HD.out.alloc HD.out.size _
              have br := Blk.new wr (x.R i j).cells 71
              have bn := Hbn.out.below hBa Hbn.out.lt
              have hBf := HB1.out.trans (hBa.mono HB1.out.size)
              have HR1 := hide (HRt.out i j hil hjL (by trivial) _ hBf)
              have HV1 := hide (HVd.out i j (by trivial))
              have Hnext : Hid (n.net.fits i j (x.R i j).rt = true → ∀ c', c' < j + 1 → n.net.fits i c' (x.R i c').rt = true) := hide (fun e c' hc' => by
                by_cases e1 : c' = j
                · subst e1; exact e
                · exact Hrow.out c' (by omega))
              have Hff : Hid (n.net.fits i j (x.R i j).rt = false → n.net.pfit x.t = 4) := hide (fun e => by rw [Hd2.out, Net.fitsAll_false (t := x.t) hil hjL e]; rfl)
              have Hf0 : Hid (n.net.right (x.R i j).rt = false → n.net.fits i j (x.R i j).rt = false) := hide (fun e => by unfold Net.fits; rw [e]; rfl)
              have Hf1 := hide (Net.fits_inv (n := n.net) (i := i) (j := j) (r := (x.R i j).rt))
              have Hf2 := hide (fun l => Net.fits_val (n := n.net) (i := i) (j := j) (l := l) (r := x.R i j))
              have Hsm : Hid (n.net.right (x.R i j).rt = true → n.net.valid (x.R i j).rt = true → 0 < (x.R i j).l) := hide (fun e hv => (Net.right_iff.1 e).some hv)
              have HIr := hide (fun W (hb : Below w.heap.size w W) => ((HX.out.below hb (Nat.le_refl _)).rt i hil j hjL).ints)
              have hrl := (HIr.out w (Below.refl _ _)).len
              unfold maxLen at hrl
              have x0 := bn.cell 0
              have x1 := bn.cell 1
              have x2 := bn.cell 2
              have x3 := bn.cell 3
              have x4 := bn.cell 4
              have y0 := br.cell 0
              have y1 := br.cell 1
              simp [NetM.cells, RtM.cells, Mat.val] at x0 x1 x2 x3 x4 y0 y1
              have Hbn1 := hide bn
              have Hbr1 := hide br
              have HBf := hide hBf
              have HBa := hide hBa
              simp only [RtM.cells] at HR1 Hbn1 Hbr1 HBf HBa x0 x1 x2 x3 x4 y0 y1
              generalize n.net.fits i j (x.R i j).rt = ff at *
              generalize n.net.right (x.R i j).rt = rr at *
              generalize n.net.valid (x.R i j).rt = vd at *
              generalize x.R i j = rt at *
              have Ha0 := hide a0
              clear bn br hBf hBa hBw HRt HVd bN0
              rw [a0]
              clear a0
              go_wp2_with fail
              go_at_call 35
              refine HR1.out.mono ?_
              rintro e w3 ⟨rfl, hb3⟩
              have HB3 := hide (HBa.out.trans (hb3.mono HBa.out.size))
              have Hbn3 := hide (Hbn1.out.below hb3 Hbn1.out.lt)
              have Hbr3 := hide (Hbr1.out.below hb3 Hbr1.out.lt)
              have HBf3 := hide (HBf.out.trans (hb3.mono HBf.out.size))
              clear x0 x1 x2 x3 x4 y0 y1 hb3 HR1 Hbn1 Hbr1 HBf HBa a1 a2 a3 z3
              cases rr with
              | false =>
                have He := hide (Hff.out (Hf0.out (by trivial)))
                clear Hff Hf0 Hf1 Hf2 HV1 Hsm
                go_wp2
                go_ret
                exact ⟨by rw [He.out]; rfl, HBf3.out⟩
              | true =>
                have HVx := hide (HV1.out w3)
                have x0 := Hbn3.out.cell 0
                have x1 := Hbn3.out.cell 1
                have x2 := Hbn3.out.cell 2
                have x3 := Hbn3.out.cell 3
                have x4 := Hbn3.out.cell 4
                have y0 := Hbr3.out.cell 0
                have y1 := Hbr3.out.cell 1
                simp [NetM.cells, Mat.val] at x0 x1 x2 x3 x4 y0 y1
                clear HV1 Hf0
                go_wp2_with fail
                go_at_call 37
                refine HVx.out.mono ?_
                rintro e w4 ⟨rfl, hb4⟩
                have HB4 := hide (HB3.out.trans (hb4.mono HB3.out.size))
                have HBf4 := hide (HBf3.out.trans (hb4.mono HBf3.out.size))
                have Hbr4 := hide (Hbr3.out.below hb4 Hbr3.out.lt)
                clear x0 x1 x2 x3 x4 y0 y1 hb4 HVx Hbn3 Hbr3 HBf3 HB3
                cases vd with
                | false =>
                  have Hn := hide (Hnext.out (Hf1.out (by trivial) (by trivial)))
                  clear Hff Hf1 Hf2 Hsm Hnext
                  go_wp2
                  go_roundw
                  case rel =>
                    first
                    | exact ⟨j + 1, by omega, by go_num, Hn, HB4⟩
                    | ((try rw [← Ha0.out]); (repeat apply Exists.intro); refine ⟨?_, rfl⟩; exact ⟨j + 1, by omega, by go_num, Hn, HB4⟩)
                  case measure => simp [intOf]; omega
                | true =>
                  have hl0 := Hsm.out (by trivial) (by trivial)
                  obtain ⟨l', hl1⟩ : ∃ l', rt.l = l' + 1 := ⟨rt.l - 1, by omega⟩
                  have Hfv := hide (Hf2.out l' (by trivial) (by trivial) hl1)
                  have hI := HIr.out w4 HBf4.out
                  have hpa := hI.addr hl0
                  have d0 := hI.cell 0 hl0
                  have d1 := hI.cell l' (by omega)
                  have y1 := Hbr4.out.cell 1
                  simp at y1
                  rw [hpa, hl1] at y1
                  rw [hl1] at hrl
                  rw [Nat.add_zero] at d0
                  have hli : ((l' + 1 : Nat) : Int) - 1 = (l' : Int) := by omega
                  have hlt0 : (0 : Int) < ((l' + 1 : Nat) : Int) := by omega
                  have hlt1 : (l' : Int) < ((l' + 1 : Nat) : Int) := by omega
                  clear Hf1 Hf2 Hsm hl1 hl0 hI hpa HIr
                  by_cases q0 : rt.f 0 = (i : Int)
                  · have q0' : (rt.f 0 != (i : Int)) = false := by simp [q0]
                    by_cases q1 : rt.f l' = (j : Int)
                    · have q1' : (rt.f l' != (j : Int)) = false := by simp [q1]
                      have Hn := hide (Hnext.out (by rw [Hfv.out, q0, q1]; simp))
                      clear Hff Hfv Hnext q0 q1
                      go_wp2
                      go_roundw
                      case rel =>
                        first
                        | exact ⟨j + 1, by omega, by go_num, Hn, HB4⟩
                        | ((try rw [← Ha0.out]); (repeat apply Exists.intro); refine ⟨?_, rfl⟩; exact ⟨j + 1, by omega, by go_num, Hn, HB4⟩)
                      case measure => simp [intOf]; omega
                    · have q1' : (rt.f l' != (j : Int)) = true := by simp [q1]
                      have He := hide (Hff.out (by rw [Hfv.out]; simp [q1]))
                      clear Hff Hfv Hnext q0 q1
                      go_wp2
                      go_ret
                      exact ⟨by rw [He.out]; rfl, HBf4.out⟩
                  · have q0' : (rt.f 0 != (i : Int)) = true := by simp [q0]
                    have He := hide (Hff.out (by rw [Hfv.out]; simp [q0]))
                    clear Hff Hfv Hnext q0
                    go_wp2
                    go_ret
                    exact ⟨by rw [He.out]; rfl, HBf4.out⟩
            · have hji : (x.len : Int) ≤ (j : Int) := by omega
              have bN0 := Hbn.out.below HD.out Hbn.out.lt
              have z3 := bN0.cell 3
              simp [NetM.cells] at z3
              rw [← HL.out] at z3
              have HAn : Hid (∀ r, r < i + 1 → ∀ c, c < x.L r → n.net.fits r c (x.R r c).rt = true) := hide (fun r hr => by
                by_cases e : r = i
                · subst e; exact fun c hc => Hrow.out c (by have := Hw2.out r hil; omega)
                · exact Hall.out r (by omega))
              clear bN0
              go_wp2
              go_roundw
              case rel =>
                first
                | exact ⟨i + 1, by omega, by go_num, HAn, HD⟩
                | ((repeat apply Exists.intro); refine ⟨?_, rfl⟩; exact ⟨i + 1, by omega, by go_num, HAn, HD⟩)
              case measure => simp [intOf]; omega
        · have hii : (x.len : Int) ≤ (i : Int) := by omega
          have hro : n.net.fitsAll x.t = true := Net.fitsAll_iff.2 (fun r hr c hc => Net.fits_iff.1 (Hall.out r (by have : r < x.len := hr; omega) c hc))
          have hfin : Hid (n.net.pfit x.t = 0) := hide (by rw [Hd2.out, if_pos hro])
          have HBf := hide (HB1.out.trans (HD.out.mono HB1.out.size))
          clear hro bN
          go_wp2
          go_ret
          exact ⟨by rw [hfin.out]; rfl, HBf.out⟩

end Go.Proofs.Ytjhkadffaephmab
