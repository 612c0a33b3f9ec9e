/-
  Our own texts, bundled: a claim holds few files.
-/
import Derived.Test.YtjhkadffaephmabBundleAJ
import Derived.Test.YtjhkadffaephmabBundleEG
/-
  As Last, where the operation that turns the world is the very last: what the others left is handed on.
-/
namespace Go.Proofs.Ytjhkadffaephmab
open Go

section
variable {P : Program} {ops : Array Oper} {Q : Exit → Act → World → Prop} {md : Region.Mode}

structure EndI (md : Region.Mode) (ops : Array Oper) (a0 : Act) (L : Nat) (G : World → Prop) (E : Nat → Value → World → Prop) (G' : (Nat → Value) → World → Prop) (d : Nat → Bool) (t : Nat → Value) (w : World) : Prop where
  shut : Shut md ops d
  ahead : d L = false → G w ∧ (∀ k, k < L → d k = true → E k (t k) w) ∧ ∀ k, L ≤ k → t k = first ops.toList a0 k
  behind : d L = true → ∃ t0, (∀ k, k < L → t k = t0 k) ∧ G' t0 w

theorem each_of_end {L : Nat} {G : World → Prop} {E : Nat → Value → World → Prop} {G' : (Nat → Value) → World → Prop} {a0 : Act}
    (hb : backBinds md ops.toList 0 = true) (hc : coversTo md ops L = true) (hz : ops.size = L + 1) {oL : Oper} (hoL : ops[L]? = some oL)
    (hs : EachAhead P md ops Q L G E a0 (ops.toList.take L) 0)
    (hL : ∀ (t : Nat → Value) (w : World), G w → (∀ k, k < L → E k (t k) w) → (∀ k, L ≤ k → t k = first ops.toList a0 k) → ∀ K : Act → World → Prop, (∀ v w', G' t w' → K ((fill ops.toList 0 t a0).put oL.dst v) w') →
        if Region.wanted oL (yielded ops (fill ops.toList 0 t a0).tmps) = true then Oper.wp P oL (fill ops.toList 0 t a0) w K Q else K ((fill ops.toList 0 t a0).put oL.dst undef) w) :
    ∀ (os : List Oper) (i : Nat), (∀ j o, os[j]? = some o → ops[i + j]? = some o) → EachI P md ops Q (EndI md ops a0 L G E G') a0 os i
  | [], _, _ => trivial
  | o :: os, i, hos => by
    refine ⟨?_, each_of_end hb hc hz hoL hs hL os (i + 1) (fun j o' hj => by rw [show i + 1 + j = i + (j + 1) by omega]; exact hos (j + 1) o' (by simpa using hj))⟩
    have ho : ops[i]? = some o := by simpa using hos 0 o rfl
    have hil : i < L + 1 := by rw [← hz]; exact (Array.getElem?_eq_some_iff.1 ho).1
    intro d t w hI hd hp K hK
    have hsh := hI.shut.upd ho hp
    rcases Nat.lt_or_ge i L with hlt | hge
    · have hdL : d L = false := by
        cases e : d L with
        | false => rfl
        | true =>
          have := coversTo_spec hc hI.shut hoL (hI.shut L oL hoL e) i hlt
          rw [hd] at this
          cases this
      obtain ⟨hG, hE, hT⟩ := hI.ahead hdL
      have hat := EachAhead.at (ops.toList.take L) 0 i o hs (by rw [List.getElem?_take, if_pos hlt]; simpa using ho) t w hG (fun j hj => by
        have hdj := hp j hj
        refine hE j ?_ hdj
        have hji : j < i := by
          simp only [waits, List.mem_map, List.mem_filter] at hj
          obtain ⟨e, ⟨he, hbi⟩, rfl⟩ := hj
          have := backBinds_spec md ops.toList 0 i o hb (by simpa using ho) e (by simpa using he) hbi
          omega
        omega) hT K
      refine hat (fun v w' hG' hEi hkeep => hK v w' ⟨hsh, fun _ => ⟨hG', fun k hk hdk => ?_, fun k hk => by rw [upd_other t v (by omega)]; exact hT k hk⟩, fun e => ?_⟩)
      · rw [Nat.zero_add] at hEi hkeep
        by_cases e : k = i
        · subst e; rw [upd_same]; exact hEi
        · rw [upd_other t v e]
          have : d k = true := by simpa [updB, e] using hdk
          exact hkeep k (t k) e (hE k hk this)
      · have : d L = true := by simpa [updB, Nat.ne_of_gt hlt] using e
        rw [hdL] at this; cases this
    · obtain rfl : i = L := by omega
      rw [hoL] at ho
      cases ho
      obtain ⟨hG, hE, hT⟩ := hI.ahead hd
      have hcov := coversTo_spec hc hI.shut hoL hp
      refine hL t w hG (fun k hk => hE k hk (hcov k hk)) hT K (fun v w' hG' => hK v w' ⟨hsh, fun e => ?_, fun _ => ⟨t, fun k hk => upd_other t v (by omega), hG'⟩⟩)
      simp [updB] at e

theorem wp_region_end {id : Nat} {a : Act} {w : World} (L : Nat) (oL : Oper) (G : World → Prop) (E : Nat → Value → World → Prop) (G' : (Nat → Value) → World → Prop) (hm : P.follows .mixedOrders = true)
    (hap : allApart ops.toList = true) (hb : backBinds .any ops.toList 0 = true) (hc : coversTo .any ops L = true) (hz : ops.size = L + 1) (hoL : ops[L]? = some oL) (hG : G w.drew)
    (hs : EachAhead P .any ops Q L G E a (ops.toList.take L) 0)
    (hL : ∀ (t : Nat → Value) (w : World), G w → (∀ k, k < L → E k (t k) w) → (∀ k, L ≤ k → t k = first ops.toList a k) → ∀ K : Act → World → Prop, (∀ v w', G' t w' → K ((fill ops.toList 0 t a).put oL.dst v) w') →
        if Region.wanted oL (yielded ops (fill ops.toList 0 t a).tmps) = true then Oper.wp P oL (fill ops.toList 0 t a) w K Q else K ((fill ops.toList 0 t a).put oL.dst undef) w)
    (hend : ∀ (t t0 : Nat → Value) (w : World), (∀ k, k < L → t k = t0 k) → G' t0 w → Q .normal (fill ops.toList 0 t a) w) :
    (Code.region id ops true).wp P Q a w := by
  have hLs : L < ops.size := (Array.getElem?_eq_some_iff.1 hoL).1
  refine wp_region_any hm ?_
  have hz2 : (fun i => (Array.replicate ops.size false).getD i false) = fun _ => false := by
    funext i
    by_cases hi : i < ops.size
    · simp [hi]
    · simp [hi]
  have := wpAny_inv (md := .any) (I := EndI .any ops a L G E G') hap hb (each_of_end hb hc hz hoL hs hL ops.toList 0 (fun j o hj => by simpa using hj)) (fun d t w hI hall => by
    obtain ⟨t0, h1, h2⟩ := hI.behind (hall L hLs)
    exact hend t t0 w h1 h2) ops.size (Array.replicate ops.size false) (first ops.toList a) w.drew (by simp) (by simp)
    (by rw [hz2]; exact ⟨fun i o _ h => by simp at h, fun _ => ⟨hG, fun k _ h => by simp at h, fun _ _ => rfl⟩, fun h => by simp at h⟩)
  rw [fill_first] at this
  exact this
end

end Go.Proofs.Ytjhkadffaephmab

/-
  path.extended.
-/
namespace Go.Proofs.Ytjhkadffaephmab
set_option maxRecDepth 100000
open Go.RowKit

structure ExtG (n : NetM) (F T E : Int) (r : RtM) (w W : World) : Prop where
  below : Below w.heap.size w W
  net : Blk W w.heap.size n.cells 41
  lnk : Blk W (w.heap.size + 1) #[.int .i64 F, .int .i64 T, .int .i64 E] 79
  rt : Blk W (w.heap.size + 1 + 1) r.cells 71
  res : Blk W (w.heap.size + 1 + 1 + 1) #[.int .i64 0, .slice none 0 0] 71
theorem ExtG.keep {n : NetM} {F T E : Int} {r : RtM} {w W W' : World} (h : ExtG n F T E r w W) (hb : Below W.heap.size W W') : ExtG n F T E r w W' :=
  ⟨h.below.trans (hb.mono h.below.size), h.net.below hb h.net.lt, h.lnk.below hb h.lnk.lt, h.rt.below hb h.rt.lt, h.res.below hb h.res.lt⟩
def extE (vs : List Value) (B : Nat) (k : Nat) (v : Value) (W : World) : Prop :=
  match k with
  | 12 => ∃ ob, v = .pointer (some ⟨ob, 0, none⟩) ∧ Blk W ob #[.int .i64 0, .slice none 0 0] 71 ∧ B < ob
  | k => vs[k]? = some v
theorem extE.keep {vs : List Value} {B : Nat} {W W' : World} (hb : Below W.heap.size W W') (k : Nat) (v : Value) (h : extE vs B k v W) : extE vs B k v W' := by
  unfold extE at *
  split at h
  · obtain ⟨ob, h1, h2, h3⟩ := h
    exact ⟨ob, h1, h2.below hb h2.lt, h3⟩
  · exact h
theorem extE_get {vs : List Value} {B k : Nat} {v u : Value} {W : World} (h : extE vs B k v W) (hk : k ≠ 12) (hu : vs[k]? = some u) : v = u := by
  unfold extE at h
  split at h
  · exact absurd rfl hk
  · rw [hu] at h
    injection h with h
    exact h.symm

theorem ExtG.put {n : NetM} {F T E : Int} {r : RtM} {w W : World} {ob : Nat} (h : ExtG n F T E r w W) (hob : w.heap.size + 1 + 1 + 1 < ob) (i : Nat) (v : Value) : ExtG n F T E r w (W.setCell ⟨ob, i, none⟩ v) :=
  ⟨h.below.setCell (p := ⟨ob, i, none⟩) (by show w.heap.size ≤ ob; omega) _, h.net.other (by omega) i v, h.lnk.other (by omega) i v, h.rt.other (by omega) i v, h.res.other (by omega) i v⟩

theorem Net.ext_no {n : Net} {i e : Int} {r : Rt} (h : ¬ (n.valid r = true ∧ i ∉ r.p ∧ n.a.E.get e r.w ≠ n.a.size - 1)) : n.ext i e r = n.inv := by
  unfold Net.ext
  rw [if_neg h]
theorem made_inv {n : NetM} {lo : Nat} {W : World} : (RtM.mk (n.a.size - 1) none 0 0 0 0 (fun _ => 0)).Made lo n.net.inv W :=
  ⟨⟨⟨fun h => absurd h (Nat.lt_irrefl _), fun _ h => absurd h (Nat.not_lt_zero _), by show 0 ≤ maxLen; exact Nat.zero_le _⟩, fun h => absurd h (Nat.lt_irrefl _)⟩, fun h => absurd h (Nat.lt_irrefl _), rfl⟩

set_option maxHeartbeats 4000000 in
theorem extended_any (n : NetM) (F T : Int) (en : Nat) (r : RtM) (w : World) (h : n.In w.heap.size w) (hck : n.net.check = 0) (hr : r.In w.heap.size w) (hR : n.net.Right r.rt) (hl : r.l ≤ 50) (he : en < n.a.E.t.len) :
    Calls Try.prog 96 #[n.val, .agg #[.int .i64 F, .int .i64 T, .int .i64 (en : Int)], r.val] w fun e w' => (∃ r' : RtM, e = .returned r'.val ∧ r'.Made w.heap.size (n.net.ext F en r.rt) w') ∧ Below w.heap.size w w' := by
  have g := Net.good_of_check hck
  have hs2 : 2 ≤ n.a.size := g.law.good.lo
  have hs24 : n.a.size ≤ 24 := g.law.good.hi
  obtain ⟨W1, hW1⟩ : ∃ W1, W1 = (((w.alloc (.cells n.cells 41)).alloc (.cells #[.int .i64 F, .int .i64 T, .int .i64 (en : Int)] 79)).alloc (.cells r.cells 71)).alloc (.cells #[.int .i64 0, .slice none 0 0] 71) := ⟨_, rfl⟩
  have hB1 : Below w.heap.size w W1 := by rw [hW1]; exact ((((Below.refl _ w).alloc (Nat.le_refl _) _).alloc (by simp) _).alloc (by simp; omega) _).alloc (by simp; omega) _
  have HG : Hid (ExtG n F T en r w W1) := hide ⟨hB1, by rw [hW1]; exact (((Blk.new w _ _).alloc _).alloc _).alloc _,
    by rw [hW1]; exact ((show Blk _ (w.heap.size + 1) #[.int .i64 F, .int .i64 T, .int .i64 (en : Int)] 79 by simpa using Blk.new (w.alloc (.cells n.cells 41)) #[.int .i64 F, .int .i64 T, .int .i64 (en : Int)] 79).alloc _).alloc _,
    by rw [hW1]; exact (show Blk _ (w.heap.size + 1 + 1) r.cells 71 by simpa using Blk.new ((w.alloc (.cells n.cells 41)).alloc (.cells #[.int .i64 F, .int .i64 T, .int .i64 (en : Int)] 79)) r.cells 71).alloc _,
    by rw [hW1]; simpa using Blk.new (((w.alloc (.cells n.cells 41)).alloc (.cells #[.int .i64 F, .int .i64 T, .int .i64 (en : Int)] 79)).alloc (.cells r.cells 71)) #[.int .i64 0, .slice none 0 0] 71⟩
  have HVr := hide (fun W => valid_any n r W hs2 hs24)
  have HIv := hide (fun W => invalid_any n W hs2 hs24)
  have HCo := hide (fun W (hb : Below w.heap.size w W) => contains_ints r.pa r.l r.q r.b r.o r.f F W (hr.below hb (Nat.le_refl _)).ints)
  obtain ⟨wn, hwn⟩ : ∃ wn : Nat, r.w = wn := ⟨r.w.toNat, by have := hR.lo; have e : r.rt.w = r.w := rfl; omega⟩
  have hw1 : (wn : Int) < n.a.size := by have := hR.hi; have e : r.rt.w = r.w := rfl; have e2 : n.net.a.size = n.a.size := rfl; omega
  have Hed := hide (fun W (hb : Below w.heap.size w W) => (h.below hb (Nat.le_refl _)).edgeAt g (e := en) (s := wn) (by omega) hw1)
  have Ha1 : Hid (n.a.E.ga = some ⟨n.a.E.gb, n.a.E.go, none⟩) := hide (Hed.out w (Below.refl _ _)).1
  have HC2 := hide (fun W hb => (Hed.out W hb).2.1)
  have HC3 := hide (fun W hb => (Hed.out W hb).2.2.1)
  have Hwl : Hid ((wn : Int) < (n.a.E.t.L en : Int)) := hide (Hed.out w (Below.refl _ _)).2.2.2
  have Hel : Hid ((en : Int) < (n.a.E.t.len : Int)) := hide (by omega)
  have Hwn := hide hwn
  have Hext : Hid (n.net.ext F en r.rt = if n.net.valid r.rt = true ∧ F ∉ listOf r.l r.f ∧ n.net.a.E.get en wn ≠ n.a.size - 1 then ⟨n.net.a.E.get en wn, F :: listOf r.l r.f⟩ else n.net.inv) := hide (by
    unfold Net.ext
    have e1 : r.rt.w = (wn : Int) := hwn
    have e2 : r.rt.p = listOf r.l r.f := rfl
    rw [e1, e2]
    rfl)
  have Hvl : Hid (n.net.valid r.rt = true → 0 < r.l) := hide (fun hv => by
    have h1 := hR.ne (by unfold Net.valid at hv; simpa using hv)
    have e2 : r.rt.p = listOf r.l r.f := rfl
    rw [e2] at h1
    apply Classical.byContradiction
    intro hc
    exact h1 (by rw [show r.l = 0 by omega]; rfl))
  have HR := hide hr
  have HW1 := hide hW1
  generalize n.net.ext F en r.rt = ex at *
  generalize n.net.valid r.rt = vd at *
  generalize n.net.a.E.get en wn = W3 at *
  simp only [NetM.val, NetM.cells, Mat.val, RtM.val, RtM.cells] at HW1 HVr HIv ⊢
  clear hB1 hW1 h hr hR g hck he hwn hw1 Hed
  go_enter Try.func96, Try.ntmps96
  go_wp2_with fail
  rw [← HW1.out]
  clear HW1
  go_at_call 158
  refine (HVr.out W1).mono ?_
  rintro e w2 ⟨rfl, hb2⟩
  have HG2 := hide (HG.out.keep hb2)
  clear hb2 HG
  cases vd with
  | false =>
    have Hx : Hid (ex = n.net.inv) := hide (by rw [Hext.out, if_neg (by simp)])
    have HIx := hide (HIv.out w2)
    have x0 := HG2.out.net.cell 0
    have x1 := HG2.out.net.cell 1
    have x2 := HG2.out.net.cell 2
    have x3 := HG2.out.net.cell 3
    have x4 := HG2.out.net.cell 4
    simp [NetM.cells, Mat.val] at x0 x1 x2 x3 x4
    go_wp2_with fail
    go_at_call 162
    refine HIx.out.mono ?_
    rintro e w5 ⟨rfl, hb5⟩
    have G5 := HG2.out.keep hb5
    have o0 := G5.res.cell 0
    have o1 := G5.res.cell 1
    have of0 := G5.res.frozen 0
    have of1 := G5.res.frozen 1
    simp at o0 o1
    have b3 := G5.res.set2 (.int .i64 (n.a.size - 1)) (.slice none 0 0)
    have e0 := b3.cell 0
    have e1 := b3.cell 1
    simp at e0 e1
    have HBz := hide ((G5.below.setCell (p := ⟨w.heap.size + 1 + 1 + 1, 0, none⟩) (by show w.heap.size ≤ w.heap.size + 1 + 1 + 1; omega) (.int .i64 (n.a.size - 1))).setCell (p := ⟨w.heap.size + 1 + 1 + 1, 1, none⟩) (by show w.heap.size ≤ w.heap.size + 1 + 1 + 1; omega) (.slice none 0 0))
    clear hb5 G5 HIx x0 x1 x2 x3 x4 b3
    go_wp2
    exact bodyPost_ret (v := .agg #[.int .i64 (n.a.size - 1), .slice none 0 0]) (by simp [results, Try.results96, go_sem, e0, e1]) rfl ⟨⟨RtM.mk (n.a.size - 1) none 0 0 0 0 (fun _ => 0), rfl, by rw [Hx.out]; exact made_inv⟩, HBz.out⟩
  | true =>
    have hl0 := Hvl.out (by trivial)
    have HCx := hide (HCo.out w2 HG2.out.below)
    have f1 := HG2.out.rt.cell 1
    have f2 := HG2.out.lnk.cell 0
    simp [RtM.cells] at f1 f2
    by_cases hm : F ∈ listOf r.l r.f
    · rw [decide_eq_true hm] at HCx
      have Hx : Hid (ex = n.net.inv) := hide (by rw [Hext.out, if_neg (fun hh => hh.2.1 hm)])
      clear hm
      go_wp2_with fail
      go_at_call 161
      refine HCx.out.mono ?_
      rintro e w3 ⟨rfl, rfl⟩
      have HIx := hide (HIv.out w3)
      have x0 := HG2.out.net.cell 0
      have x1 := HG2.out.net.cell 1
      have x2 := HG2.out.net.cell 2
      have x3 := HG2.out.net.cell 3
      have x4 := HG2.out.net.cell 4
      simp [NetM.cells, Mat.val] at x0 x1 x2 x3 x4
      go_wp2_with fail
      go_at_call 162
      refine HIx.out.mono ?_
      rintro e w5 ⟨rfl, hb5⟩
      have G5 := HG2.out.keep hb5
      have o0 := G5.res.cell 0
      have o1 := G5.res.cell 1
      have of0 := G5.res.frozen 0
      have of1 := G5.res.frozen 1
      simp at o0 o1
      have b3 := G5.res.set2 (.int .i64 (n.a.size - 1)) (.slice none 0 0)
      have e0 := b3.cell 0
      have e1 := b3.cell 1
      simp at e0 e1
      have HBz := hide ((G5.below.setCell (p := ⟨w.heap.size + 1 + 1 + 1, 0, none⟩) (by show w.heap.size ≤ w.heap.size + 1 + 1 + 1; omega) (.int .i64 (n.a.size - 1))).setCell (p := ⟨w.heap.size + 1 + 1 + 1, 1, none⟩) (by show w.heap.size ≤ w.heap.size + 1 + 1 + 1; omega) (.slice none 0 0))
      clear hb5 G5 HIx x0 x1 x2 x3 x4 b3
      go_wp2
      exact bodyPost_ret (v := .agg #[.int .i64 (n.a.size - 1), .slice none 0 0]) (by simp [results, Try.results96, go_sem, e0, e1]) rfl ⟨⟨RtM.mk (n.a.size - 1) none 0 0 0 0 (fun _ => 0), rfl, by rw [Hx.out]; exact made_inv⟩, HBz.out⟩
    · rw [decide_eq_false hm] at HCx
      have Hm := hide hm
      clear hm
      go_wp2_with fail
      go_at_call 161
      refine HCx.out.mono ?_
      rintro e w3 ⟨rfl, rfl⟩
      clear HCx f1 f2
      go_wp2_with fail
      refine wp_region_end 13 _ (ExtG n F T en r w) (extE [.pointer (some ⟨w.heap.size, 0, none⟩), .pointer (some ⟨w.heap.size, 2, none⟩), .slice (some ⟨n.a.E.gb, n.a.E.go, none⟩) n.a.E.t.len n.a.E.cap, .pointer (some ⟨w.heap.size + 1, 2, none⟩), .int .i64 (en : Int), .pointer (some ⟨n.a.E.gb, n.a.E.go + en, none⟩), .slice (some ⟨n.a.E.RB en, n.a.E.RO en, none⟩) (n.a.E.t.L en) (n.a.E.C en), .pointer (some ⟨w.heap.size + 1 + 1, 0, none⟩), .int .i64 (wn : Int), .pointer (some ⟨n.a.E.RB en, n.a.E.RO en + wn, none⟩), .int .i64 W3, .agg #[.int .i64 W3, .slice none 0 0]] (w.heap.size + 1 + 1 + 1))
        (fun t W => ∃ ob, t 12 = .pointer (some ⟨ob, 0, none⟩) ∧ w.heap.size + 1 + 1 + 1 < ob ∧ ExtG n F T en r w W ∧ Blk W ob #[.int .i64 W3, .slice none 0 0] 71) (by kernel_rfl) (by kernel_rfl) (by kernel_rfl) (by kernel_rfl) (by kernel_rfl) rfl (HG2.out.keep (below_drewN (Below.refl _ _) 1)) ⟨?_, ?_, ?_, ?_, ?_, ?_, ?_, ?_, ?_, ?_, ?_, ?_, ?_, trivial⟩ ?_ ?_
      rotate_right
      · intro t t0 W ht hG
        have h12 := ht 12 (by omega)
        clear ht
        simp only [fill, Act.put, List.setIfInBounds_toArray, List.set_cons_zero, List.set_cons_succ, Nat.zero_add, Nat.reduceAdd]
        obtain ⟨ob, e12, hlt, hG4, hob⟩ := hG
        rw [e12] at h12
        simp only [h12]
        clear h12 e12
        have HG4 := hide hG4
        have Hob := hide hob
        have x0 := hG4.net.cell 0
        have x1 := hG4.net.cell 1
        have x2 := hG4.net.cell 2
        have x3 := hG4.net.cell 3
        have x4 := hG4.net.cell 4
        have o0 := hob.cell 0
        have o1 := hob.cell 1
        simp [NetM.cells, Mat.val] at x0 x1 x2 x3 x4 o0 o1
        have HVx := hide (valid_any n (RtM.mk W3 none 0 0 0 0 (fun _ => 0)) W hs2 hs24)
        have hvv : n.net.valid (RtM.mk W3 none 0 0 0 0 (fun _ => 0)).rt = (W3 != n.a.size - 1) := rfl
        rw [hvv] at HVx
        simp only [NetM.val, NetM.cells, Mat.val, RtM.val, RtM.cells] at HVx
        clear hG4 hob hvv HG2
        go_wp2_with fail
        go_at_call 158
        refine HVx.out.mono ?_
        rintro e w5 ⟨rfl, hb5⟩
        have HG5 := hide (HG4.out.keep hb5)
        have Hob5 := hide (Hob.out.below hb5 Hob.out.lt)
        clear hb5 HVx x0 x1 x2 x3 x4 o0 o1 HG4 Hob
        by_cases hw3 : W3 = n.a.size - 1
        · have hw3' : (W3 != n.a.size - 1) = false := by simp [hw3]
          have Hx : Hid (ex = n.net.inv) := hide (by rw [Hext.out, if_neg (fun hh => hh.2.2 hw3)])
          have Hw3 := hide hw3
          have o0 := Hob5.out.cell 0
          have o1 := Hob5.out.cell 1
          have q0 := HG5.out.res.cell 0
          have q1 := HG5.out.res.cell 1
          have qf0 := HG5.out.res.frozen 0
          have qf1 := HG5.out.res.frozen 1
          simp at o0 o1 q0 q1
          have b3 := HG5.out.res.set2 (.int .i64 W3) (.slice none 0 0)
          have e0 := b3.cell 0
          have e1 := b3.cell 1
          simp at e0 e1
          have HBz := hide ((HG5.out.below.setCell (p := ⟨w.heap.size + 1 + 1 + 1, 0, none⟩) (by show w.heap.size ≤ w.heap.size + 1 + 1 + 1; omega) (.int .i64 W3)).setCell (p := ⟨w.heap.size + 1 + 1 + 1, 1, none⟩) (by show w.heap.size ≤ w.heap.size + 1 + 1 + 1; omega) (.slice none 0 0))
          clear hw3 b3
          go_wp2
          exact bodyPost_ret (v := .agg #[.int .i64 W3, .slice none 0 0]) (by simp [results, Try.results96, go_sem, e0, e1]) rfl ⟨⟨RtM.mk (n.a.size - 1) none 0 0 0 0 (fun _ => 0), by rw [Hw3.out], by rw [Hx.out]; exact made_inv⟩, HBz.out⟩
        · have hw3' : (W3 != n.a.size - 1) = true := by simp [hw3]
          have Hx : Hid (ex = ⟨W3, F :: listOf r.l r.f⟩) := hide (by rw [Hext.out, if_pos ⟨by trivial, Hm.out, hw3⟩])
          clear hw3
          obtain ⟨l', hl'⟩ : ∃ l', r.l = l' + 1 := ⟨r.l - 1, by omega⟩
          have Hl' := hide hl'
          have hIr := HR.out.below HG5.out.below (Nat.le_refl _)
          have hpa := hIr.ints.addr hl0
          have f0 := HG5.out.lnk.cell 0
          have f1 := HG5.out.rt.cell 1
          simp [RtM.cells] at f0 f1
          rw [hpa, hl'] at f1
          have f1' : ∀ o, (w5.alloc o).cell? ⟨w.heap.size + 1 + 1, 1, none⟩ = some (.slice (some ⟨r.b, r.o, none⟩) (l' + 1) r.q) := fun o => by
            have := (HG5.out.rt.alloc o).cell 1
            simp [RtM.cells] at this
            rw [hpa, hl'] at this
            exact this
          have hA2 : Below w5.heap.size w5 ((w5.alloc (.cells #[.int .i64 F] 3)).alloc (.cells #[.slice (some ⟨w5.heap.size, 0, none⟩) 1 1, .slice (some ⟨r.b, r.o, none⟩) (l' + 1) r.q] 22)) := ((Below.refl _ w5).alloc (Nat.le_refl _) _).alloc (by simp) _
          have hbI := hIr.blk hl0
          have hIa : Ints (some ⟨r.b, r.o, none⟩) (l' + 1) r.b r.o r.f ((w5.alloc (.cells #[.int .i64 F] 3)).alloc (.cells #[.slice (some ⟨w5.heap.size, 0, none⟩) 1 1, .slice (some ⟨r.b, r.o, none⟩) (l' + 1) r.q] 22)) := by
            have := hIr.ints.below hA2 (fun _ => Nat.lt_of_lt_of_le hbI HG5.out.below.size)
            rw [hpa, hl'] at this
            exact this
          have HCc := hide (concat_two F (w5.heap.size + 1) w5.heap.size l' r.q r.b r.o r.f _ (by simpa using Blk.new (w5.alloc (.cells #[.int .i64 F] 3)) #[.slice (some ⟨w5.heap.size, 0, none⟩) 1 1, .slice (some ⟨r.b, r.o, none⟩) (l' + 1) r.q] 22) ((Blk.new w5 _ _).alloc _) hIa (Nat.lt_of_lt_of_le hbI (Nat.le_trans HG5.out.below.size hA2.size)) (by omega))
          have HA2 := hide hA2
          clear hA2 hIa hIr hpa hl' hbI
          go_wp2_with fail
          go_at_call 163
          refine HCc.out.mono ?_
          rintro e w6 ⟨⟨v, rfl, ho⟩, hb6⟩
          obtain ⟨g, cap, hv, hIv, hglt, hgC, _, _, hlist⟩ := owns_ints (l := l' + 1) ho (by rw [List.length_cons, listOf_length])
          have h56 := HA2.out.trans (hb6.mono HA2.out.size)
          have hgb : ob < g ∧ w.heap.size + 1 + 1 + 1 < g := by
            have h1 := Hob5.out.lt
            have h2 := HA2.out.size
            omega
          have G6 := HG5.out.keep h56
          have ob6 := Hob5.out.below h56 Hob5.out.lt
          have p1 := ob6.cell 1
          have pf1 := ob6.frozen 1
          simp at p1
          have G7 := G6.put hlt 1 (.slice (some ⟨g, 0, none⟩) (l' + 1 + 1) cap)
          have ob7 := ob6.set 1 (.slice (some ⟨g, 0, none⟩) (l' + 1 + 1) cap)
          have s0 := ob7.cell 0
          have s1 := ob7.cell 1
          have q0 := G7.res.cell 0
          have q1 := G7.res.cell 1
          have qf0 := G7.res.frozen 0
          have qf1 := G7.res.frozen 1
          simp at s0 s1 q0 q1
          have b3 := G7.res.set2 (.int .i64 W3) (.slice (some ⟨g, 0, none⟩) (l' + 1 + 1) cap)
          have e0 := b3.cell 0
          have e1 := b3.cell 1
          simp at e0 e1
          have HBz := hide ((G7.below.setCell (p := ⟨w.heap.size + 1 + 1 + 1, 0, none⟩) (by show w.heap.size ≤ w.heap.size + 1 + 1 + 1; omega) (.int .i64 W3)).setCell (p := ⟨w.heap.size + 1 + 1 + 1, 1, none⟩) (by show w.heap.size ≤ w.heap.size + 1 + 1 + 1; omega) (.slice (some ⟨g, 0, none⟩) (l' + 1 + 1) cap))
          have HMz : Hid ((RtM.mk W3 (some ⟨g, 0, none⟩) (l' + 1 + 1) cap g 0 (fun i => (F :: listOf (l' + 1) r.f).getD i 0)).Made w.heap.size ex (((w6.setCell ⟨ob, 1, none⟩ (.slice (some ⟨g, 0, none⟩) (l' + 1 + 1) cap)).setCell ⟨w.heap.size + 1 + 1 + 1, 0, none⟩ (.int .i64 W3)).setCell ⟨w.heap.size + 1 + 1 + 1, 1, none⟩ (.slice (some ⟨g, 0, none⟩) (l' + 1 + 1) cap))) := hide ⟨⟨⟨fun _ => rfl, fun i hi => by
              rw [cell_other (show g ≠ w.heap.size + 1 + 1 + 1 by omega), cell_other (show g ≠ w.heap.size + 1 + 1 + 1 by omega), cell_other (show g ≠ ob by omega)]
              exact hIv.cell i hi, hIv.len⟩, fun _ => by simpa [World.setCell] using hglt⟩, fun _ => by show w.heap.size ≤ g; omega, by
              rw [Hx.out, Hl'.out]
              show Rt.mk W3 (listOf (l' + 1 + 1) (fun i => (F :: listOf (l' + 1) r.f).getD i 0)) = _
              rw [hlist]⟩
          subst hv
          clear ho hb6 hIv hglt hgC hlist h56 hgb G6 ob6 G7 ob7 b3 HCc HA2
          go_wp2
          exact bodyPost_ret (v := .agg #[.int .i64 W3, .slice (some ⟨g, 0, none⟩) (l' + 1 + 1) cap]) (by simp [results, Try.results96, go_sem, e0, e1]) rfl ⟨⟨_, rfl, HMz.out⟩, HBz.out⟩
      rotate_right
      · intro t W hG hE _ K hK
        simp only [fill, Act.put, List.setIfInBounds_toArray, List.set_cons_zero, List.set_cons_succ] at hK ⊢
        rw [if_pos (by rfl)]
        have e11 := extE_get (hE 11 (by omega)) (by decide) rfl
        obtain ⟨ob, e12, hob, hlt⟩ := hE 12 (by omega)
        have o0 := hob.cell 0
        have o1 := hob.cell 1
        have of0 := hob.frozen 0
        have of1 := hob.frozen 1
        simp at o0 o1
        have b3 := hob.set2 (.int .i64 W3) (.slice none 0 0)
        simp only [e11, e12] at hK ⊢
        go_simp
        exact hK undef _ ⟨ob, by first | rfl | exact e12, hlt, (hG.put hlt 0 _).put hlt 1 _, b3⟩
      all_goals intro t W hG hp _ K hK
      all_goals simp only [fill, Act.put, List.setIfInBounds_toArray, List.set_cons_zero, List.set_cons_succ] at hK ⊢
      all_goals rw [if_pos (by rfl)]
      · go_simp
        exact hK _ W hG rfl (fun _ _ _ h => h)
      · have e0 := extE_get (hp 0 (by decide)) (by decide) rfl
        simp only [e0] at hK ⊢
        go_simp
        exact hK _ W hG rfl (fun _ _ _ h => h)
      · have e1 := extE_get (hp 1 (by decide)) (by decide) rfl
        have x2 := hG.net.cell 2
        simp [NetM.cells, Mat.val] at x2
        rw [Ha1.out] at x2
        simp only [e1] at hK ⊢
        go_simp
        exact hK _ W hG rfl (fun _ _ _ h => h)
      · go_simp
        exact hK _ W hG rfl (fun _ _ _ h => h)
      · have e3 := extE_get (hp 3 (by decide)) (by decide) rfl
        have x2 := hG.lnk.cell 2
        simp at x2
        simp only [e3] at hK ⊢
        go_simp
        exact hK _ W hG rfl (fun _ _ _ h => h)
      · have e2 := extE_get (hp 2 (by decide)) (by decide) rfl
        have e4 := extE_get (hp 4 (by decide)) (by decide) rfl
        have c5 := Hel.out
        simp only [e2, e4] at hK ⊢
        go_simp
        exact hK _ W hG rfl (fun _ _ _ h => h)
      · have e5 := extE_get (hp 5 (by decide)) (by decide) rfl
        have c2 := HC2.out W hG.below
        simp only [e5] at hK ⊢
        go_simp
        exact hK _ W hG rfl (fun _ _ _ h => h)
      · go_simp
        exact hK _ W hG rfl (fun _ _ _ h => h)
      · have e7 := extE_get (hp 7 (by decide)) (by decide) rfl
        have x2 := hG.rt.cell 0
        simp [RtM.cells] at x2
        rw [Hwn.out] at x2
        simp only [e7] at hK ⊢
        go_simp
        exact hK _ W hG rfl (fun _ _ _ h => h)
      · have e6 := extE_get (hp 6 (by decide)) (by decide) rfl
        have e8 := extE_get (hp 8 (by decide)) (by decide) rfl
        have c5 := Hwl.out
        simp only [e6, e8] at hK ⊢
        go_simp
        exact hK _ W hG rfl (fun _ _ _ h => h)
      · have e9 := extE_get (hp 9 (by decide)) (by decide) rfl
        have c3 := HC3.out W hG.below
        simp only [e9] at hK ⊢
        go_simp
        exact hK _ W hG rfl (fun _ _ _ h => h)
      · have e10 := extE_get (hp 10 (by decide)) (by decide) rfl
        simp only [e10] at hK ⊢
        go_simp
        exact hK _ W hG rfl (fun _ _ _ h => h)
      · have hb : Below W.heap.size W (W.alloc (.cells #[.int .i64 0, .slice none 0 0] 71)) := (Below.refl _ W).alloc (Nat.le_refl _) _
        go_simp
        exact hK _ _ (hG.keep hb) ⟨W.heap.size, rfl, Blk.new W _ _, hG.res.lt⟩ (fun k u _ => extE.keep hb k u)

end Go.Proofs.Ytjhkadffaephmab

/-
  path.Best.
-/
namespace Go.Proofs.Ytjhkadffaephmab
set_option maxRecDepth 100000
open Go.RowKit

def zeroR : RtM := ⟨0, none, 0, 0, 0, 0, fun _ => 0⟩
def Rt.zero : Rt := ⟨0, []⟩
theorem made_zero {lo : Nat} {W : World} : zeroR.Made lo Rt.zero W :=
  ⟨⟨⟨fun h => absurd h (Nat.lt_irrefl _), fun _ h => absurd h (Nat.not_lt_zero _), by show 0 ≤ maxLen; exact Nat.zero_le _⟩, fun h => absurd h (Nat.lt_irrefl _)⟩, fun h => absurd h (Nat.lt_irrefl _), rfl⟩

theorem RtM.Made.put {r : RtM} {lo : Nat} {x : Rt} {W : World} (h : r.Made lo x W) {B : Nat} (hB : B < lo) (i : Nat) (v : Value) : r.Made lo x (W.setCell ⟨B, i, none⟩ v) :=
  ⟨⟨⟨h.mem.ints.addr, fun j hj => by
    rw [cell_other (show r.b ≠ B by have := h.own (by omega); omega)]
    exact h.mem.ints.cell j hj, h.mem.ints.len⟩, fun h0 => by have := h.mem.blk h0; simpa [World.setCell] using this⟩, h.own, h.same⟩

structure BstG (n : NetM) (a b : RtM) (w W : World) : Prop where
  below : Below w.heap.size w W
  net : Blk W w.heap.size n.cells 41
  one : Blk W (w.heap.size + 1) a.cells 71
  two : Blk W (w.heap.size + 1 + 1) b.cells 71
  res : Blk W (w.heap.size + 1 + 1 + 1) #[.int .i64 0, .slice none 0 0] 71
theorem BstG.keep {n : NetM} {a b : RtM} {w W W' : World} (h : BstG n a b w W) (hb : Below W.heap.size W W') : BstG n a b w W' :=
  ⟨h.below.trans (hb.mono h.below.size), h.net.below hb h.net.lt, h.one.below hb h.one.lt, h.two.below hb h.two.lt, h.res.below hb h.res.lt⟩

/-- What is wrong, and what is taken. -/
def Net.bestErr (n : Net) (a b : Rt) : Int := if n.check ≠ 0 then n.check else if n.right a = true ∧ n.right b = true then 0 else 4
def Net.bestAns (n : Net) (a b : Rt) : Int × Rt := if n.check ≠ 0 then (n.check, Rt.zero) else if n.right a = true ∧ n.right b = true then (0, n.bestR a b) else (4, Rt.zero)
theorem Net.Right.short {n : Net} {r : RtM} (g : n.Good) (h : n.Right r.rt) : r.l ≤ 6 := by
  have h1 := nodup_len n.nodes.toNat r.rt.p h.once (fun c hc => by have := h.node c hc; omega)
  have h2 : r.rt.p.length = r.l := listOf_length _ _
  have := g.hi
  omega

set_option maxHeartbeats 4000000 in
theorem pathBest_any (n : NetM) (a b : RtM) (w : World) (h : n.In w.heap.size w) (ha : a.In w.heap.size w) (hb : b.In w.heap.size w) :
    Calls Try.prog 32 #[n.val, a.val, b.val] w fun e w' => (∃ r' : RtM, e = .returned (.tuple #[r'.val, .int .i64 (n.net.bestAns a.rt b.rt).1]) ∧ r'.Made w.heap.size (n.net.bestAns a.rt b.rt).2 w') ∧ Below w.heap.size w w' := by
  obtain ⟨W1, hW1⟩ : ∃ W1, W1 = (((w.alloc (.cells n.cells 41)).alloc (.cells a.cells 71)).alloc (.cells b.cells 71)).alloc (.cells #[.int .i64 0, .slice none 0 0] 71) := ⟨_, rfl⟩
  have hB1 : Below w.heap.size w W1 := by rw [hW1]; exact ((((Below.refl _ w).alloc (Nat.le_refl _) _).alloc (by simp) _).alloc (by simp; omega) _).alloc (by simp; omega) _
  have HG : Hid (BstG n a b w W1) := hide ⟨hB1, by rw [hW1]; exact (((Blk.new w _ _).alloc _).alloc _).alloc _,
    by rw [hW1]; exact ((show Blk _ (w.heap.size + 1) a.cells 71 by simpa using Blk.new (w.alloc (.cells n.cells 41)) a.cells 71).alloc _).alloc _,
    by rw [hW1]; exact (show Blk _ (w.heap.size + 1 + 1) b.cells 71 by simpa using Blk.new ((w.alloc (.cells n.cells 41)).alloc (.cells a.cells 71)) b.cells 71).alloc _,
    by rw [hW1]; simpa using Blk.new (((w.alloc (.cells n.cells 41)).alloc (.cells a.cells 71)).alloc (.cells b.cells 71)) #[.int .i64 0, .slice none 0 0] 71⟩
  have HC := hide (netCheck_any n W1 (h.grown hB1))
  have HRa := hide (fun W (hbl : Below w.heap.size w W) (hc : n.net.check = 0) => right_any n a W (ha.grown hbl) hc)
  have HRb := hide (fun W (hbl : Below w.heap.size w W) (hc : n.net.check = 0) => right_any n b W (hb.grown hbl) hc)
  have HBs := hide (fun W (hbl : Below w.heap.size w W) (hc : n.net.check = 0) (h1 : n.net.right a.rt = true) (h2 : n.net.right b.rt = true) => bestP_any n a b W (h.grown hbl) hc (ha.grown hbl) (hb.grown hbl) (Net.right_iff.1 h1).lo (Net.right_iff.1 h1).hi (Net.right_iff.1 h2).lo (Net.right_iff.1 h2).hi)
  have HCp := hide (fun W (hbl : Below w.heap.size w W) (hc : n.net.check = 0) (h1 : n.net.right a.rt = true) (h2 : n.net.right b.rt = true) => copied_any (n.net.bestM a b) W (by unfold Net.bestM; split; exact hb.grown hbl; exact ha.grown hbl) (by
    have s1 := Net.Right.short (Net.good_of_check hc) (Net.right_iff.1 h1)
    have s2 := Net.Right.short (Net.good_of_check hc) (Net.right_iff.1 h2)
    unfold Net.bestM
    split <;> omega))
  have Hans : Hid (n.net.bestAns a.rt b.rt = if n.net.check ≠ 0 then (n.net.check, Rt.zero) else if n.net.right a.rt = true ∧ n.net.right b.rt = true then (0, n.net.bestR a.rt b.rt) else (4, Rt.zero)) := hide rfl
  rw [Net.bestM_rt] at HCp
  generalize n.net.bestAns a.rt b.rt = an at *
  generalize n.net.bestR a.rt b.rt = br at *
  generalize n.net.bestM a b = bm at *
  generalize n.net.right a.rt = ra at *
  generalize n.net.right b.rt = rb at *
  generalize n.net.check = ck at *
  have HW1 := hide hW1
  rw [hW1] at HC
  simp only [NetM.val, NetM.cells, Mat.val, RtM.val, RtM.cells] at HW1 HC HRa HRb HBs HCp ⊢
  clear hB1 hW1 h ha hb
  go_enter Try.func32, Try.ntmps32
  go_wp2_with fail
  go_at_call 70
  refine HC.out.mono ?_
  rw [← HW1.out]
  rintro e w2 ⟨rfl, hb2⟩
  have HG2 := hide (HG.out.keep hb2)
  clear hb2 HG HC HW1
  by_cases hck : ck = 0
  rotate_left
  · have hck' : (ck != 0) = true := by simp [hck]
    have Hx : Hid (an = (ck, Rt.zero)) := hide (by rw [Hans.out, if_pos hck])
    clear hck Hans
    have q0 := HG2.out.res.cell 0
    have q1 := HG2.out.res.cell 1
    have qf0 := HG2.out.res.frozen 0
    have qf1 := HG2.out.res.frozen 1
    simp at q0 q1
    have b3 := HG2.out.res.set2 (.int .i64 0) (.slice none 0 0)
    have e0 := b3.cell 0
    have e1 := b3.cell 1
    simp at e0 e1
    have HBz := hide ((HG2.out.below.setCell (p := ⟨w.heap.size + 1 + 1 + 1, 0, none⟩) (by show w.heap.size ≤ w.heap.size + 1 + 1 + 1; omega) (.int .i64 0)).setCell (p := ⟨w.heap.size + 1 + 1 + 1, 1, none⟩) (by show w.heap.size ≤ w.heap.size + 1 + 1 + 1; omega) (.slice none 0 0))
    clear b3
    go_wp2
    exact bodyPost_ret (v := .tuple #[.agg #[.int .i64 0, .slice none 0 0], .int .i64 ck]) (by simp [results, Try.results32, go_sem, e0, e1]) rfl ⟨⟨zeroR, by rw [Hx.out]; rfl, by rw [Hx.out]; exact made_zero⟩, HBz.out⟩
  subst hck
  have Hans2 : Hid (an = if ra = true ∧ rb = true then (0, br) else (4, Rt.zero)) := hide (by rw [Hans.out, if_neg (by simp)])
  have HRx := hide (HRa.out w2 HG2.out.below (by trivial))
  have x0 := HG2.out.net.cell 0
  have x1 := HG2.out.net.cell 1
  have x2 := HG2.out.net.cell 2
  have x3 := HG2.out.net.cell 3
  have x4 := HG2.out.net.cell 4
  simp [NetM.cells, Mat.val] at x0 x1 x2 x3 x4
  have y0 := HG2.out.one.cell 0
  have y1 := HG2.out.one.cell 1
  simp [RtM.cells] at y0 y1
  clear Hans
  go_wp2_with fail
  go_at_call 91
  refine HRx.out.mono ?_
  rintro e w3 ⟨rfl, hb3⟩
  have HG3 := hide (HG2.out.keep hb3)
  clear hb3 HRx HG2 x0 x1 x2 x3 x4 y0 y1
  cases ra with
  | false =>
    have Hx : Hid (an = (4, Rt.zero)) := hide (by rw [Hans2.out, if_neg (by simp)])
    clear Hans2
    have q0 := HG3.out.res.cell 0
    have q1 := HG3.out.res.cell 1
    have qf0 := HG3.out.res.frozen 0
    have qf1 := HG3.out.res.frozen 1
    simp at q0 q1
    have b3 := HG3.out.res.set2 (.int .i64 0) (.slice none 0 0)
    have e0 := b3.cell 0
    have e1 := b3.cell 1
    simp at e0 e1
    have HBz := hide ((HG3.out.below.setCell (p := ⟨w.heap.size + 1 + 1 + 1, 0, none⟩) (by show w.heap.size ≤ w.heap.size + 1 + 1 + 1; omega) (.int .i64 0)).setCell (p := ⟨w.heap.size + 1 + 1 + 1, 1, none⟩) (by show w.heap.size ≤ w.heap.size + 1 + 1 + 1; omega) (.slice none 0 0))
    clear b3
    go_wp2
    exact bodyPost_ret (v := .tuple #[.agg #[.int .i64 0, .slice none 0 0], .int .i64 4]) (by simp [results, Try.results32, go_sem, e0, e1]) rfl ⟨⟨zeroR, by rw [Hx.out]; rfl, by rw [Hx.out]; exact made_zero⟩, HBz.out⟩
  | true =>
    have HRx := hide (HRb.out w3 HG3.out.below (by trivial))
    have x0 := HG3.out.net.cell 0
    have x1 := HG3.out.net.cell 1
    have x2 := HG3.out.net.cell 2
    have x3 := HG3.out.net.cell 3
    have x4 := HG3.out.net.cell 4
    simp [NetM.cells, Mat.val] at x0 x1 x2 x3 x4
    have y0 := HG3.out.two.cell 0
    have y1 := HG3.out.two.cell 1
    simp [RtM.cells] at y0 y1
    go_wp2_with fail
    go_at_call 91
    refine HRx.out.mono ?_
    rintro e w4 ⟨rfl, hb4⟩
    have HG4 := hide (HG3.out.keep hb4)
    clear hb4 HRx HG3 x0 x1 x2 x3 x4 y0 y1
    cases rb with
    | false =>
      have Hx : Hid (an = (4, Rt.zero)) := hide (by rw [Hans2.out, if_neg (by simp)])
      clear Hans2
      have q0 := HG4.out.res.cell 0
      have q1 := HG4.out.res.cell 1
      have qf0 := HG4.out.res.frozen 0
      have qf1 := HG4.out.res.frozen 1
      simp at q0 q1
      have b3 := HG4.out.res.set2 (.int .i64 0) (.slice none 0 0)
      have e0 := b3.cell 0
      have e1 := b3.cell 1
      simp at e0 e1
      have HBz := hide ((HG4.out.below.setCell (p := ⟨w.heap.size + 1 + 1 + 1, 0, none⟩) (by show w.heap.size ≤ w.heap.size + 1 + 1 + 1; omega) (.int .i64 0)).setCell (p := ⟨w.heap.size + 1 + 1 + 1, 1, none⟩) (by show w.heap.size ≤ w.heap.size + 1 + 1 + 1; omega) (.slice none 0 0))
      clear b3
      go_wp2
      exact bodyPost_ret (v := .tuple #[.agg #[.int .i64 0, .slice none 0 0], .int .i64 4]) (by simp [results, Try.results32, go_sem, e0, e1]) rfl ⟨⟨zeroR, by rw [Hx.out]; rfl, by rw [Hx.out]; exact made_zero⟩, HBz.out⟩
    | true =>
      have Hx : Hid (an = (0, br)) := hide (by rw [Hans2.out, if_pos (by simp)])
      have HBx := hide (HBs.out w4 HG4.out.below (by trivial) (by trivial) (by trivial))
      have x0 := HG4.out.net.cell 0
      have x1 := HG4.out.net.cell 1
      have x2 := HG4.out.net.cell 2
      have x3 := HG4.out.net.cell 3
      have x4 := HG4.out.net.cell 4
      simp [NetM.cells, Mat.val] at x0 x1 x2 x3 x4
      have y0 := HG4.out.one.cell 0
      have y1 := HG4.out.one.cell 1
      have z0 := HG4.out.two.cell 0
      have z1 := HG4.out.two.cell 1
      simp [RtM.cells] at y0 y1 z0 z1
      clear Hans2
      go_wp2_with fail
      go_at_call 93
      refine HBx.out.mono ?_
      rintro e w5 ⟨rfl, hb5⟩
      have HG5 := hide (HG4.out.keep hb5)
      have HCx := hide (HCp.out w5 HG5.out.below (by trivial) (by trivial) (by trivial))
      clear hb5 HBx HG4 x0 x1 x2 x3 x4 y0 y1 z0 z1
      go_wp2_with fail
      go_at_call 92
      refine HCx.out.mono ?_
      rintro e w6 ⟨⟨r', rfl, hm⟩, hb6⟩
      have HG6 := hide (HG5.out.keep hb6)
      have q0 := HG6.out.res.cell 0
      have q1 := HG6.out.res.cell 1
      have qf0 := HG6.out.res.frozen 0
      have qf1 := HG6.out.res.frozen 1
      simp at q0 q1
      have b3 := HG6.out.res.set2 (.int .i64 r'.w) (.slice r'.pa r'.l r'.q)
      have e0 := b3.cell 0
      have e1 := b3.cell 1
      simp at e0 e1
      have HBz := hide ((HG6.out.below.setCell (p := ⟨w.heap.size + 1 + 1 + 1, 0, none⟩) (by show w.heap.size ≤ w.heap.size + 1 + 1 + 1; omega) (.int .i64 r'.w)).setCell (p := ⟨w.heap.size + 1 + 1 + 1, 1, none⟩) (by show w.heap.size ≤ w.heap.size + 1 + 1 + 1; omega) (.slice r'.pa r'.l r'.q))
      have HMz := hide (((hm.put HG5.out.res.lt 0 (.int .i64 r'.w)).put HG5.out.res.lt 1 (.slice r'.pa r'.l r'.q)).lower HG5.out.below.size)
      clear b3 hm hb6 HCx HG5 HG6
      go_wp2
      exact bodyPost_ret (v := .tuple #[.agg #[.int .i64 r'.w, .slice r'.pa r'.l r'.q], .int .i64 0]) (by simp [results, Try.results32, go_sem, e0, e1]) rfl ⟨⟨r', by rw [Hx.out], by rw [Hx.out]; exact HMz.out⟩, HBz.out⟩

end Go.Proofs.Ytjhkadffaephmab

/-
  path.Extend.
-/
namespace Go.Proofs.Ytjhkadffaephmab
set_option maxRecDepth 100000
open Go.RowKit

structure EtdG (n : NetM) (r : RtM) (w W : World) : Prop where
  below : Below w.heap.size w W
  net : Blk W w.heap.size n.cells 41
  one : Blk W (w.heap.size + 1) r.cells 71
  res : Blk W (w.heap.size + 1 + 1) #[.int .i64 0, .slice none 0 0] 71
theorem EtdG.keep {n : NetM} {r : RtM} {w W W' : World} (h : EtdG n r w W) (hb : Below W.heap.size W W') : EtdG n r w W' :=
  ⟨h.below.trans (hb.mono h.below.size), h.net.below hb h.net.lt, h.one.below hb h.one.lt, h.res.below hb h.res.lt⟩

/-- May it be extended by link l? -/
def Net.begR (n : Net) (r : Rt) (i : Int) : Bool := !n.valid r || r.p.headD 0 == i
def Net.extAns (n : Net) (fr l : Int) (r : Rt) : Int × Rt :=
  if n.check ≠ 0 then (n.check, Rt.zero) else if ¬ (0 ≤ l ∧ l < (n.ln : Int)) then (5, Rt.zero) else if fr ≠ n.F l.toNat then (1, Rt.zero)
  else if n.right r = true ∧ n.begR r (n.T l.toNat) = true then (0, n.ext (n.F l.toNat) (n.E l.toNat) r) else (4, Rt.zero)

set_option maxHeartbeats 4000000 in
theorem pathExtend_any (n : NetM) (fr l : Int) (r : RtM) (w : World) (h : n.In w.heap.size w) (hr : r.In w.heap.size w) :
    Calls Try.prog 33 #[n.val, .int .i64 fr, .int .i64 l, r.val] w fun e w' => (∃ r' : RtM, e = .returned (.tuple #[r'.val, .int .i64 (n.net.extAns fr l r.rt).1]) ∧ r'.Made w.heap.size (n.net.extAns fr l r.rt).2 w') ∧ Below w.heap.size w w' := by
  obtain ⟨W1, hW1⟩ : ∃ W1, W1 = ((w.alloc (.cells n.cells 41)).alloc (.cells r.cells 71)).alloc (.cells #[.int .i64 0, .slice none 0 0] 71) := ⟨_, rfl⟩
  have hB1 : Below w.heap.size w W1 := by rw [hW1]; exact (((Below.refl _ w).alloc (Nat.le_refl _) _).alloc (by simp) _).alloc (by simp; omega) _
  have HG : Hid (EtdG n r w W1) := hide ⟨hB1, by rw [hW1]; exact ((Blk.new w _ _).alloc _).alloc _,
    by rw [hW1]; exact (show Blk _ (w.heap.size + 1) r.cells 71 by simpa using Blk.new (w.alloc (.cells n.cells 41)) r.cells 71).alloc _,
    by rw [hW1]; simpa using Blk.new ((w.alloc (.cells n.cells 41)).alloc (.cells r.cells 71)) #[.int .i64 0, .slice none 0 0] 71⟩
  have hlen := h.len
  unfold maxLen at hlen
  have HC := hide (netCheck_any n W1 (h.grown hB1))
  have Hgd := hide (fun (e : n.net.check = 0) => Net.good_of_check e)
  have HSb := hide (fun W => sbelow_any l n.ln W)
  have HRr := hide (fun W (hbl : Below w.heap.size w W) (hc : n.net.check = 0) => right_any n r W (hr.grown hbl) hc)
  have HBg := hide (fun (i : Int) W (hbl : Below w.heap.size w W) (hc : n.net.check = 0) (h1 : n.net.right r.rt = true) => begins_any n r i W (hr.grown hbl) (Net.good_of_check hc).law.good.lo (Net.good_of_check hc).law.good.hi (fun hv => by
    have h1 := (Net.right_iff.1 h1).ne (by unfold Net.valid at hv; simpa using hv)
    have e2 : r.rt.p = listOf r.l r.f := rfl
    rw [e2] at h1
    apply Classical.byContradiction
    intro hc
    exact h1 (by rw [show r.l = 0 by omega]; rfl)))
  have HEx := hide (fun (F T : Int) (en : Nat) W (hbl : Below w.heap.size w W) (hc : n.net.check = 0) (h1 : n.net.right r.rt = true) (he : en < n.a.E.t.len) => extended_any n F T en r W (h.grown hbl) hc (hr.grown hbl) (Net.right_iff.1 h1) (by have := Net.Right.short (Net.good_of_check hc) (Net.right_iff.1 h1); omega) he)
  have H := hide h
  have HW1 := hide hW1
  rw [hW1] at HC
  simp only [NetM.val, NetM.cells, Mat.val, RtM.val, RtM.cells] at HW1 HC HRr HBg HEx ⊢
  clear hB1 hW1 h hr
  have Hans : Hid (n.net.extAns fr l r.rt = if n.net.check ≠ 0 then (n.net.check, Rt.zero) else if ¬ (0 ≤ l ∧ l < (n.ln : Int)) then (5, Rt.zero) else if fr ≠ n.F l.toNat then (1, Rt.zero) else if n.net.right r.rt = true ∧ n.net.begR r.rt (n.T l.toNat) = true then (0, n.net.ext (n.F l.toNat) (n.E l.toNat) r.rt) else (4, Rt.zero)) := hide rfl
  generalize n.net.extAns fr l r.rt = an at *
  generalize n.net.check = ck at *
  go_enter Try.func33, Try.ntmps33
  go_wp2_with fail
  go_at_call 70
  refine HC.out.mono ?_
  rw [← HW1.out]
  rintro e w2 ⟨rfl, hb2⟩
  have HG2 := hide (HG.out.keep hb2)
  clear hb2 HG HC HW1
  by_cases hck : ck = 0
  rotate_left
  · have hck' : (ck != 0) = true := by simp [hck]
    have Hx : Hid (an = (ck, Rt.zero)) := hide (by rw [Hans.out, if_pos hck])
    clear hck Hans
    have q0 := HG2.out.res.cell 0
    have q1 := HG2.out.res.cell 1
    have qf0 := HG2.out.res.frozen 0
    have qf1 := HG2.out.res.frozen 1
    simp at q0 q1
    have b3 := HG2.out.res.set2 (.int .i64 0) (.slice none 0 0)
    have e0 := b3.cell 0
    have e1 := b3.cell 1
    simp at e0 e1
    have HBz := hide ((HG2.out.below.setCell (p := ⟨w.heap.size + 1 + 1, 0, none⟩) (by show w.heap.size ≤ w.heap.size + 1 + 1; omega) (.int .i64 0)).setCell (p := ⟨w.heap.size + 1 + 1, 1, none⟩) (by show w.heap.size ≤ w.heap.size + 1 + 1; omega) (.slice none 0 0))
    clear b3
    go_wp2
    exact bodyPost_ret (v := .tuple #[.agg #[.int .i64 0, .slice none 0 0], .int .i64 ck]) (by simp [results, Try.results33, go_sem, e0, e1]) rfl ⟨⟨zeroR, by rw [Hx.out]; rfl, by rw [Hx.out]; exact made_zero⟩, HBz.out⟩
  subst hck
  have x4 := HG2.out.net.cell 4
  simp [NetM.cells] at x4
  by_cases hlr : 0 ≤ l ∧ l < (n.ln : Int)
  rotate_left
  · have hb0 : (decide (0 ≤ l) && decide (l < (n.ln : Int))) = false := by simp; omega
    have HSx := hide (HSb.out w2)
    rw [hb0] at HSx
    have Hx : Hid (an = (5, Rt.zero)) := hide (by rw [Hans.out, if_neg (by simp), if_pos hlr])
    clear hlr hb0 Hans
    go_wp2_with fail
    go_at_call 94
    refine HSx.out.mono ?_
    rintro e w3 ⟨rfl, rfl⟩
    have q0 := HG2.out.res.cell 0
    have q1 := HG2.out.res.cell 1
    have qf0 := HG2.out.res.frozen 0
    have qf1 := HG2.out.res.frozen 1
    simp at q0 q1
    have b3 := HG2.out.res.set2 (.int .i64 0) (.slice none 0 0)
    have e0 := b3.cell 0
    have e1 := b3.cell 1
    simp at e0 e1
    have HBz := hide ((HG2.out.below.setCell (p := ⟨w.heap.size + 1 + 1, 0, none⟩) (by show w.heap.size ≤ w.heap.size + 1 + 1; omega) (.int .i64 0)).setCell (p := ⟨w.heap.size + 1 + 1, 1, none⟩) (by show w.heap.size ≤ w.heap.size + 1 + 1; omega) (.slice none 0 0))
    clear b3
    go_wp2
    exact bodyPost_ret (v := .tuple #[.agg #[.int .i64 0, .slice none 0 0], .int .i64 5]) (by simp [results, Try.results33, go_sem, e0, e1]) rfl ⟨⟨zeroR, by rw [Hx.out]; rfl, by rw [Hx.out]; exact made_zero⟩, HBz.out⟩
  have hb0 : (decide (0 ≤ l) && decide (l < (n.ln : Int))) = true := by simp [hlr]
  have HSx := hide (HSb.out w2)
  rw [hb0] at HSx
  obtain ⟨ln, rfl⟩ : ∃ ln : Nat, l = ln := ⟨l.toNat, by omega⟩
  have hll : ln < n.ln := by omega
  have hli : (ln : Int) < (n.ln : Int) := by omega
  have hgl := (Hgd.out (by trivial)).link ln hll
  obtain ⟨en, hen⟩ : ∃ en : Nat, n.E ln = en := ⟨(n.E ln).toNat, by have : n.net.E ln = n.E ln := rfl; omega⟩
  have hel : en < n.a.E.t.len := by
    have e1 : n.net.E ln = n.E ln := rfl
    have e2 : n.net.a.E.len = n.a.E.t.len := rfl
    omega
  have hla := H.out.la (by omega)
  have hI := H.out.below HG2.out.below (Nat.le_refl _)
  have f1 := hI.f ln hll
  have f2 := hI.t ln hll
  have f3 := hI.e ln hll
  rw [hen] at f3
  have Hans2 : Hid (an = if fr ≠ n.F ln then (1, Rt.zero) else if n.net.right r.rt = true ∧ n.net.begR r.rt (n.T ln) = true then (0, n.net.ext (n.F ln) en r.rt) else (4, Rt.zero)) := hide (by
    rw [Hans.out, if_neg (by simp), if_neg (by simp [hlr]), Int.toNat_natCast, hen])
  have Hbeg : Hid (n.net.right r.rt = true → n.net.begR r.rt (n.T ln) = (!n.net.valid r.rt || r.f 0 == n.T ln)) := hide (fun h1 => by
    unfold Net.begR
    cases hv : n.net.valid r.rt with
    | false => rfl
    | true =>
      have h2 := (Net.right_iff.1 h1).ne (by unfold Net.valid at hv; simpa using hv)
      have e2 : r.rt.p = listOf r.l r.f := rfl
      rw [e2] at h2 ⊢
      obtain ⟨l', hl'⟩ : ∃ l', r.l = l' + 1 := ⟨r.l - 1, by
        have : r.l ≠ 0 := fun e => h2 (by rw [e]; rfl)
        omega⟩
      rw [hl', listOf_cons]
      rfl)
  have HG3 := hide (HG2.out.keep ((Below.refl _ w2).alloc (Nat.le_refl _) (.cells #[.int .i64 (n.F ln), .int .i64 (n.T ln), .int .i64 (en : Int)] 79)))
  have HL3 := hide (Blk.new w2 #[.int .i64 (n.F ln), .int .i64 (n.T ln), .int .i64 (en : Int)] 79)
  have Hel := hide hel
  rw [hla] at x4
  simp only [hla] at HRr HBg HEx
  generalize n.net.right r.rt = ra at *
  generalize n.net.begR r.rt (n.T ln) = bg at *
  clear hb0 hlr hgl hen hel hI Hans HSb Hgd
  by_cases hfr : fr = n.F ln
  rotate_left
  · have hfr' : (fr != n.F ln) = true := by simp [hfr]
    have Hx : Hid (an = (1, Rt.zero)) := hide (by rw [Hans2.out, if_pos hfr])
    clear hfr Hans2
    go_wp2_with fail
    go_at_call 94
    refine HSx.out.mono ?_
    rintro e w3 ⟨rfl, rfl⟩
    have q0 := HG3.out.res.cell 0
    have q1 := HG3.out.res.cell 1
    have qf0 := HG3.out.res.frozen 0
    have qf1 := HG3.out.res.frozen 1
    simp at q0 q1
    have b3 := HG3.out.res.set2 (.int .i64 0) (.slice none 0 0)
    have e0 := b3.cell 0
    have e1 := b3.cell 1
    simp at e0 e1
    have HBz := hide ((HG3.out.below.setCell (p := ⟨w.heap.size + 1 + 1, 0, none⟩) (by show w.heap.size ≤ w.heap.size + 1 + 1; omega) (.int .i64 0)).setCell (p := ⟨w.heap.size + 1 + 1, 1, none⟩) (by show w.heap.size ≤ w.heap.size + 1 + 1; omega) (.slice none 0 0))
    clear b3
    go_wp2
    exact bodyPost_ret (v := .tuple #[.agg #[.int .i64 0, .slice none 0 0], .int .i64 1]) (by simp [results, Try.results33, go_sem, e0, e1]) rfl ⟨⟨zeroR, by rw [Hx.out]; rfl, by rw [Hx.out]; exact made_zero⟩, HBz.out⟩
  have hfr' : (fr != n.F ln) = false := by simp [hfr]
  have Hans3 : Hid (an = if ra = true ∧ bg = true then (0, n.net.ext (n.F ln) en r.rt) else (4, Rt.zero)) := hide (by rw [Hans2.out, if_neg (by simp [hfr])])
  have HRx := hide (HRr.out _ HG3.out.below (by trivial))
  clear hfr Hans2
  have u0 := HG3.out.net.cell 0
  have u1 := HG3.out.net.cell 1
  have u2 := HG3.out.net.cell 2
  have u3 := HG3.out.net.cell 3
  have u4 := HG3.out.net.cell 4
  simp [NetM.cells, Mat.val] at u0 u1 u2 u3 u4
  rw [hla] at u4
  have y0 := HG3.out.one.cell 0
  have y1 := HG3.out.one.cell 1
  simp [RtM.cells] at y0 y1
  go_wp2_with fail
  go_at_call 94
  refine HSx.out.mono ?_
  rintro e w3 ⟨rfl, rfl⟩
  go_wp2_with fail
  go_at_call 91
  refine HRx.out.mono ?_
  rintro e w4 ⟨rfl, hb4⟩
  have HG4 := hide (HG3.out.keep hb4)
  have HL4 := hide (HL3.out.below hb4 HL3.out.lt)
  clear hb4 HRx HG3 HL3 x4 u0 u1 u2 u3 u4 y0 y1 HSx f1 f2 f3
  cases ra with
  | false =>
    have Hx : Hid (an = (4, Rt.zero)) := hide (by rw [Hans3.out, if_neg (by simp)])
    clear Hans3
    have q0 := HG4.out.res.cell 0
    have q1 := HG4.out.res.cell 1
    have qf0 := HG4.out.res.frozen 0
    have qf1 := HG4.out.res.frozen 1
    simp at q0 q1
    have b3 := HG4.out.res.set2 (.int .i64 0) (.slice none 0 0)
    have e0 := b3.cell 0
    have e1 := b3.cell 1
    simp at e0 e1
    have HBz := hide ((HG4.out.below.setCell (p := ⟨w.heap.size + 1 + 1, 0, none⟩) (by show w.heap.size ≤ w.heap.size + 1 + 1; omega) (.int .i64 0)).setCell (p := ⟨w.heap.size + 1 + 1, 1, none⟩) (by show w.heap.size ≤ w.heap.size + 1 + 1; omega) (.slice none 0 0))
    clear b3
    go_wp2
    exact bodyPost_ret (v := .tuple #[.agg #[.int .i64 0, .slice none 0 0], .int .i64 4]) (by simp [results, Try.results33, go_sem, e0, e1]) rfl ⟨⟨zeroR, by rw [Hx.out]; rfl, by rw [Hx.out]; exact made_zero⟩, HBz.out⟩
  | true =>
    have HBx := hide (HBg.out (n.T ln) w4 HG4.out.below (by trivial) (by trivial))
    rw [← Hbeg.out (by trivial)] at HBx
    have x0 := HG4.out.net.cell 0
    have x1 := HG4.out.net.cell 1
    have x2 := HG4.out.net.cell 2
    have x3 := HG4.out.net.cell 3
    have x4 := HG4.out.net.cell 4
    simp [NetM.cells, Mat.val] at x0 x1 x2 x3 x4
    rw [hla] at x4
    have y0 := HG4.out.one.cell 0
    have y1 := HG4.out.one.cell 1
    have z1 := HL4.out.cell 1
    simp [RtM.cells] at y0 y1 z1
    go_wp2_with fail
    go_at_call 95
    refine HBx.out.mono ?_
    rintro e w5 ⟨rfl, hb5⟩
    have HG5 := hide (HG4.out.keep hb5)
    have HL5 := hide (HL4.out.below hb5 HL4.out.lt)
    clear hb5 HBx HG4 HL4 x0 x1 x2 x3 x4 y0 y1 z1
    cases bg with
    | false =>
      have Hx : Hid (an = (4, Rt.zero)) := hide (by rw [Hans3.out, if_neg (by simp)])
      clear Hans3
      have q0 := HG5.out.res.cell 0
      have q1 := HG5.out.res.cell 1
      have qf0 := HG5.out.res.frozen 0
      have qf1 := HG5.out.res.frozen 1
      simp at q0 q1
      have b3 := HG5.out.res.set2 (.int .i64 0) (.slice none 0 0)
      have e0 := b3.cell 0
      have e1 := b3.cell 1
      simp at e0 e1
      have HBz := hide ((HG5.out.below.setCell (p := ⟨w.heap.size + 1 + 1, 0, none⟩) (by show w.heap.size ≤ w.heap.size + 1 + 1; omega) (.int .i64 0)).setCell (p := ⟨w.heap.size + 1 + 1, 1, none⟩) (by show w.heap.size ≤ w.heap.size + 1 + 1; omega) (.slice none 0 0))
      clear b3
      go_wp2
      exact bodyPost_ret (v := .tuple #[.agg #[.int .i64 0, .slice none 0 0], .int .i64 4]) (by simp [results, Try.results33, go_sem, e0, e1]) rfl ⟨⟨zeroR, by rw [Hx.out]; rfl, by rw [Hx.out]; exact made_zero⟩, HBz.out⟩
    | true =>
      have Hx : Hid (an = (0, n.net.ext (n.F ln) en r.rt)) := hide (by rw [Hans3.out, if_pos (by simp)])
      have HEy := hide (HEx.out (n.F ln) (n.T ln) en w5 HG5.out.below (by trivial) (by trivial) Hel.out)
      generalize n.net.ext (n.F ln) en r.rt = ex at *
      have x0 := HG5.out.net.cell 0
      have x1 := HG5.out.net.cell 1
      have x2 := HG5.out.net.cell 2
      have x3 := HG5.out.net.cell 3
      have x4 := HG5.out.net.cell 4
      simp [NetM.cells, Mat.val] at x0 x1 x2 x3 x4
      rw [hla] at x4
      have y0 := HG5.out.one.cell 0
      have y1 := HG5.out.one.cell 1
      have z0 := HL5.out.cell 0
      have z1 := HL5.out.cell 1
      have z2 := HL5.out.cell 2
      simp [RtM.cells] at y0 y1 z0 z1 z2
      clear Hans3
      go_wp2_with fail
      go_at_call 96
      refine HEy.out.mono ?_
      rintro e w6 ⟨⟨r', rfl, hm⟩, hb6⟩
      have HG6 := hide (HG5.out.keep hb6)
      have q0 := HG6.out.res.cell 0
      have q1 := HG6.out.res.cell 1
      have qf0 := HG6.out.res.frozen 0
      have qf1 := HG6.out.res.frozen 1
      simp at q0 q1
      have b3 := HG6.out.res.set2 (.int .i64 r'.w) (.slice r'.pa r'.l r'.q)
      have e0 := b3.cell 0
      have e1 := b3.cell 1
      simp at e0 e1
      have HBz := hide ((HG6.out.below.setCell (p := ⟨w.heap.size + 1 + 1, 0, none⟩) (by show w.heap.size ≤ w.heap.size + 1 + 1; omega) (.int .i64 r'.w)).setCell (p := ⟨w.heap.size + 1 + 1, 1, none⟩) (by show w.heap.size ≤ w.heap.size + 1 + 1; omega) (.slice r'.pa r'.l r'.q))
      have HMz := hide (((hm.put HG5.out.res.lt 0 (.int .i64 r'.w)).put HG5.out.res.lt 1 (.slice r'.pa r'.l r'.q)).lower HG5.out.below.size)
      clear b3 hm hb6 HEy HG5 HG6 HL5
      go_wp2
      exact bodyPost_ret (v := .tuple #[.agg #[.int .i64 r'.w, .slice r'.pa r'.l r'.q], .int .i64 0]) (by simp [results, Try.results33, go_sem, e0, e1]) rfl ⟨⟨r', by rw [Hx.out], by rw [Hx.out]; exact HMz.out⟩, HBz.out⟩

end Go.Proofs.Ytjhkadffaephmab

/-
  signpostref.IsValid, SameRoute.
-/
namespace Go.Proofs.Ytjhkadffaephmab
set_option maxRecDepth 100000
open Go.RowKit

set_option maxHeartbeats 1000000 in
theorem refValid_any (n : NetM) (r : RtM) (w : World) (h2 : 2 ≤ n.a.size) (h24 : n.a.size ≤ 24) :
    Calls Try.prog 37 #[n.val, r.val] w fun e w' => e = .returned (.bool (n.net.valid r.rt)) ∧ Below w.heap.size w w' := by
  have hB : Below w.heap.size w ((w.alloc (.cells n.cells 41)).alloc (.cells r.cells 71)) := ((Below.refl _ w).alloc (Nat.le_refl _) _).alloc (by simp) _
  have HR : Hid (n.net.valid r.rt = (r.w != n.a.size - 1)) := hide rfl
  generalize n.net.valid r.rt = v at *
  have HB := hide hB
  simp only [NetM.val, NetM.cells, Mat.val, RtM.val, RtM.cells] at HB ⊢
  clear hB
  go_enter Try.func37, Try.ntmps37
  go_wp2
  go_ret
  exact ⟨by rw [HR.out]; rfl, HB.out⟩

theorem sameInts_lists {l m : Nat} {f g : Nat → Int} : sameInts l m f g = true ↔ listOf l f = listOf m g := by
  rw [sameInts_iff]
  constructor
  · rintro ⟨rfl, h⟩
    exact listOf_congr h
  · intro e
    have h1 : l = m := by
      have := congrArg List.length e
      rwa [listOf_length, listOf_length] at this
    subst h1
    refine ⟨rfl, fun i hi => ?_⟩
    have := congrArg (fun x => x[i]?) e
    simp only [listOf_get hi] at this
    injection this

set_option maxHeartbeats 1000000 in
/-- Two routes that are one are told so. -/
theorem sameRoute_yes (a b : RtM) (w : World) (ha : a.In w.heap.size w) (hb : b.In w.heap.size w) (h : a.rt = b.rt) :
    Calls Try.prog 101 #[a.val, b.val] w fun e w' => e = .returned (.bool true) ∧ Below w.heap.size w w' := by
  obtain ⟨W1, hW1⟩ : ∃ W1, W1 = (w.alloc (.cells a.cells 71)).alloc (.cells b.cells 71) := ⟨_, rfl⟩
  have hB1 : Below w.heap.size w W1 := by rw [hW1]; exact ((Below.refl _ w).alloc (Nat.le_refl _) _).alloc (by simp) _
  have HS := hide (sameInts_any a.pa b.pa a.l b.l a.q b.q a.b a.o b.b b.o a.f b.f W1 (ha.below hB1 (Nat.le_refl _)).ints (hb.below hB1 (Nat.le_refl _)).ints)
  have hw : a.w = b.w := congrArg Rt.w h
  have hl : sameInts a.l b.l a.f b.f = true := sameInts_lists.2 (congrArg Rt.p h)
  rw [hl, hW1] at HS
  have HB1 := hide hB1
  rw [hW1] at HB1
  simp only [RtM.val, RtM.cells] at HS HB1 ⊢
  have hw' : (a.w == b.w) = true := by simp [hw]
  clear hB1 hW1 ha hb h hl hw
  go_enter Try.func101, Try.ntmps101
  go_wp2_with fail
  go_at_call 58
  refine HS.out.mono ?_
  rintro e w2 ⟨rfl, z, rfl⟩
  have HB2 := hide (below_drewN HB1.out z)
  clear HS
  go_wp2
  go_ret
  exact ⟨rfl, HB2.out⟩

end Go.Proofs.Ytjhkadffaephmab
