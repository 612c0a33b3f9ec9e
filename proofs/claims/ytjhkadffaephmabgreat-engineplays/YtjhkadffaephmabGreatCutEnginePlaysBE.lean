/-
  Our own texts, bundled: a claim holds few files.
-/
import Derived.Test.YtjhkadffaephmabGreatCutEnginePlaysAI
import Derived.Test.YtjhkadffaephmabGreatCutEnginePlaysBD
/-
  As Last, where the operation that turns the world is the very last: what the others left is handed on.
-/
namespace Go.Proofs.YtjhkadffaephmabGreat
open Go

section
variable {P : Program} {ops : Array Oper} {Q : Exit → Act → World → Prop} {md : Region.Mode}

structure EndI (md : Region.Mode) (ops : Array Oper) (a0 : Act) (L : Nat) (G : World → Prop) (E : Nat → Value → World → Prop) (G' : (Nat → Value) → World → Prop) (d : Nat → Bool) (t : Nat → Value) (w : World) : Prop where
  shut : Shut md ops d
  ahead : d L = false → G w ∧ (∀ k, k < L → d k = true → E k (t k) w) ∧ ∀ k, L ≤ k → t k = first ops.toList a0 k
  behind : d L = true → ∃ t0, (∀ k, k < L → t k = t0 k) ∧ G' t0 w

theorem each_of_end {L : Nat} {G : World → Prop} {E : Nat → Value → World → Prop} {G' : (Nat → Value) → World → Prop} {a0 : Act}
    (hb : backBinds md ops.toList 0 = true) (hc : coversTo md ops L = true) (hz : ops.size = L + 1) {oL : Oper} (hoL : ops[L]? = some oL)
    (hs : EachAhead P md ops Q L G E a0 (ops.toList.take L) 0)
    (hL : ∀ (t : Nat → Value) (w : World), G w → (∀ k, k < L → E k (t k) w) → (∀ k, L ≤ k → t k = first ops.toList a0 k) → ∀ K : Act → World → Prop, (∀ v w', G' t w' → K ((fill ops.toList 0 t a0).put oL.dst v) w') →
        if Region.wanted oL (yielded ops (fill ops.toList 0 t a0).tmps) = true then Oper.wp P oL (fill ops.toList 0 t a0) w K Q else K ((fill ops.toList 0 t a0).put oL.dst undef) w) :
    ∀ (os : List Oper) (i : Nat), (∀ j o, os[j]? = some o → ops[i + j]? = some o) → EachI P md ops Q (EndI md ops a0 L G E G') a0 os i
  | [], _, _ => trivial
  | o :: os, i, hos => by
    refine ⟨?_, each_of_end hb hc hz hoL hs hL os (i + 1) (fun j o' hj => by rw [show i + 1 + j = i + (j + 1) by omega]; exact hos (j + 1) o' (by simpa using hj))⟩
    have ho : ops[i]? = some o := by simpa using hos 0 o rfl
    have hil : i < L + 1 := by rw [← hz]; exact (Array.getElem?_eq_some_iff.1 ho).1
    intro d t w hI hd hp K hK
    have hsh := hI.shut.upd ho hp
    rcases Nat.lt_or_ge i L with hlt | hge
    · have hdL : d L = false := by
        cases e : d L with
        | false => rfl
        | true =>
          have := coversTo_spec hc hI.shut hoL (hI.shut L oL hoL e) i hlt
          rw [hd] at this
          cases this
      obtain ⟨hG, hE, hT⟩ := hI.ahead hdL
      have hat := EachAhead.at (ops.toList.take L) 0 i o hs (by rw [List.getElem?_take, if_pos hlt]; simpa using ho) t w hG (fun j hj => by
        have hdj := hp j hj
        refine hE j ?_ hdj
        have hji : j < i := by
          simp only [waits, List.mem_map, List.mem_filter] at hj
          obtain ⟨e, ⟨he, hbi⟩, rfl⟩ := hj
          have := backBinds_spec md ops.toList 0 i o hb (by simpa using ho) e (by simpa using he) hbi
          omega
        omega) hT K
      refine hat (fun v w' hG' hEi hkeep => hK v w' ⟨hsh, fun _ => ⟨hG', fun k hk hdk => ?_, fun k hk => by rw [upd_other t v (by omega)]; exact hT k hk⟩, fun e => ?_⟩)
      · rw [Nat.zero_add] at hEi hkeep
        by_cases e : k = i
        · subst e; rw [upd_same]; exact hEi
        · rw [upd_other t v e]
          have : d k = true := by simpa [updB, e] using hdk
          exact hkeep k (t k) e (hE k hk this)
      · have : d L = true := by simpa [updB, Nat.ne_of_gt hlt] using e
        rw [hdL] at this; cases this
    · obtain rfl : i = L := by omega
      rw [hoL] at ho
      cases ho
      obtain ⟨hG, hE, hT⟩ := hI.ahead hd
      have hcov := coversTo_spec hc hI.shut hoL hp
      refine hL t w hG (fun k hk => hE k hk (hcov k hk)) hT K (fun v w' hG' => hK v w' ⟨hsh, fun e => ?_, fun _ => ⟨t, fun k hk => upd_other t v (by omega), hG'⟩⟩)
      simp [updB] at e

theorem wp_region_end {id : Nat} {a : Act} {w : World} (L : Nat) (oL : Oper) (G : World → Prop) (E : Nat → Value → World → Prop) (G' : (Nat → Value) → World → Prop) (hm : P.follows .mixedOrders = true)
    (hap : allApart ops.toList = true) (hb : backBinds .any ops.toList 0 = true) (hc : coversTo .any ops L = true) (hz : ops.size = L + 1) (hoL : ops[L]? = some oL) (hG : G w.drew)
    (hs : EachAhead P .any ops Q L G E a (ops.toList.take L) 0)
    (hL : ∀ (t : Nat → Value) (w : World), G w → (∀ k, k < L → E k (t k) w) → (∀ k, L ≤ k → t k = first ops.toList a k) → ∀ K : Act → World → Prop, (∀ v w', G' t w' → K ((fill ops.toList 0 t a).put oL.dst v) w') →
        if Region.wanted oL (yielded ops (fill ops.toList 0 t a).tmps) = true then Oper.wp P oL (fill ops.toList 0 t a) w K Q else K ((fill ops.toList 0 t a).put oL.dst undef) w)
    (hend : ∀ (t t0 : Nat → Value) (w : World), (∀ k, k < L → t k = t0 k) → G' t0 w → Q .normal (fill ops.toList 0 t a) w) :
    (Code.region id ops true).wp P Q a w := by
  have hLs : L < ops.size := (Array.getElem?_eq_some_iff.1 hoL).1
  refine wp_region_any hm ?_
  have hz2 : (fun i => (Array.replicate ops.size false).getD i false) = fun _ => false := by
    funext i
    by_cases hi : i < ops.size
    · simp [hi]
    · simp [hi]
  have := wpAny_inv (md := .any) (I := EndI .any ops a L G E G') hap hb (each_of_end hb hc hz hoL hs hL ops.toList 0 (fun j o hj => by simpa using hj)) (fun d t w hI hall => by
    obtain ⟨t0, h1, h2⟩ := hI.behind (hall L hLs)
    exact hend t t0 w h1 h2) ops.size (Array.replicate ops.size false) (first ops.toList a) w.drew (by simp) (by simp)
    (by rw [hz2]; exact ⟨fun i o _ h => by simp at h, fun _ => ⟨hG, fun k _ h => by simp at h, fun _ _ => rfl⟩, fun h => by simp at h⟩)
  rw [fill_first] at this
  exact this
end

end Go.Proofs.YtjhkadffaephmabGreat

/-
 engine.copied.
-/
namespace Go.Proofs.YtjhkadffaephmabGreat
set_option maxRecDepth 100000
open Go.RowKit

theorem CopT.mono {lo lo' T N : Nat} {x : Mat} {vt : Array Value} {k : Nat} {W : World} (h : CopT lo T N x vt k W) (hl : lo' ≤ lo) : CopT lo' T N x vt k W :=
 ⟨h.blk, h.size, fun r hr => by
  obtain ⟨a, c, b, h1, h2, h3⟩ := h.row r hr
  exact ⟨a, c, b, h1, h2, fun h0 => ⟨Nat.le_trans hl (h3 h0).1, (h3 h0).2⟩⟩⟩

/-- A store into a block ahead of mid that is not the routers'. -/
theorem Parts.setLow {mid N : Nat} {e : Eng} {y : Lay} {k : Nat} {W : World} (h : Parts mid N e y k W) {q j : Nat} (v : Value) (hq : q < mid) (hg : q ≠ y.G) : Parts mid N e y k (W.setCell ⟨q, j, none⟩ v) where
 rtrs := h.rtrs.other (Ne.symm hg) _ _
 size := h.size
 g := h.g
 r0 := h.r0
 r1 := h.r1
 tolds := fun i hi => (h.tolds i hi).other (by have := h.lt i hi; omega) _ _
 t0 := h.t0
 routes := fun i hi => ⟨(h.routes i hi).1.keep (by simp), fun j' hj => by rw [cell_other (by have := (h.routes i hi).1.lo; omega)]; exact (h.routes i hi).2 j' hj⟩
 rows := fun i hi s hs ht => ⟨(h.rows i hi s hs ht).1, (h.rows i hi s hs ht).2.1.keep (by simp), fun j' hj => by rw [cell_other (by have := (h.rows i hi s hs ht).2.1.lo; omega)]; exact (h.rows i hi s hs ht).2.2 j' hj⟩
 lt := h.lt
 tt := h.tt
 ylo := h.ylo

def CopAns (w : World) (N : Nat) (x : EngM) (r : Ending) (w' : World) : Prop :=
 ∃ mid Bv y, r = .returned (.agg #[.slice (some ⟨y.G, 0, none⟩) N y.gc, Bv]) ∧ Parts mid N x.eng y N w' ∧ w'.ownsRow w.heap.size 69 3 Bv x.eng.bag.length (mailsL x.eng.bag) ∧ (∀ g, Bv.ownBlock = some g → g < mid ∧ g ≠ y.G) ∧ w.heap.size ≤ y.G ∧ Below w.heap.size w w'

/-- What stands while an engine is copied. -/
structure CInv (w : World) (mid N : Nat) (x : EngM) (ob : Nat) (Bv : Value) (y : Lay) (k : Nat) (W : World) : Prop where
 below : Below w.heap.size w W
 box : Blk W w.heap.size x.cells 31
 res : Blk W (w.heap.size + 1) #[.slice none 0 0, .slice none 0 0] 31
 out : Blk W ob #[.slice (some ⟨y.G, 0, none⟩) N y.gc, Bv] 31
 bag : W.ownsRow w.heap.size 69 3 Bv x.eng.bag.length (mailsL x.eng.bag)
 parts : Parts mid N x.eng y k W
 lo : w.heap.size + 1 < y.G
 om : ob < mid ∧ w.heap.size + 1 < ob ∧ ob ≠ y.G
 bm : ∀ g, Bv.ownBlock = some g → g < mid ∧ g ≠ y.G ∧ w.heap.size + 1 < g ∧ g ≠ ob
 md : mid ≤ W.heap.size
theorem CInv.keep {w : World} {mid N : Nat} {x : EngM} {ob : Nat} {Bv : Value} {y : Lay} {k : Nat} {W W' : World} (h : CInv w mid N x ob Bv y k W) (hb : Below W.heap.size W W') : CInv w mid N x ob Bv y k W' :=
 ⟨h.below.trans (hb.mono h.below.size), h.box.below hb h.box.lt, h.res.below hb h.res.lt, h.out.below hb h.out.lt, owns_below h.bag hb, h.parts.below hb, h.lo, h.om, h.bm, Nat.le_trans h.md hb.size⟩

/-- A router's two cells are set. -/
theorem CInv.put {w : World} {mid N : Nat} {x : EngM} {ob : Nat} {Bv : Value} {y y' : Lay} {k : Nat} {W : World} (h : CInv w mid N x ob Bv y k W) {u v : Value} {i j : Nat} (hp : Parts mid N x.eng y' (k + 1) ((W.setCell ⟨y.G, i, none⟩ u).setCell ⟨y.G, j, none⟩ v)) (hG : y'.G = y.G) (hgc : y'.gc = y.gc) :
  CInv w mid N x ob Bv y' (k + 1) ((W.setCell ⟨y.G, i, none⟩ u).setCell ⟨y.G, j, none⟩ v) := by
 have hbg : Bv.ownBlock ≠ some y.G := fun e1 => (h.bm _ e1).2.1 rfl
 have hlo := h.lo
 exact ⟨(h.below.setCell (p := ⟨y.G, i, none⟩) (by show w.heap.size ≤ y.G; omega) _).setCell (p := ⟨y.G, j, none⟩) (by show w.heap.size ≤ y.G; omega) _, (h.box.other (by omega) _ _).other (by omega) _ _, (h.res.other (by omega) _ _).other (by omega) _ _, by rw [hG, hgc]; exact (h.out.other h.om.2.2 _ _).other h.om.2.2 _ _, ownsRow_setCell_other (ownsRow_setCell_other h.bag hbg _) hbg _, hp, by rw [hG]; exact h.lo, by rw [hG]; exact h.om, fun g hg => by rw [hG]; exact h.bm g hg, by simpa using h.md⟩

theorem type_ne {W : World} {a b : Nat} {u v : Array Value} {s t : TypeId} (ha : Blk W a u s) (hb : Blk W b v t) (hst : s ≠ t) : a ≠ b := fun e => by
 subst e
 unfold Blk at ha hb
 rw [ha] at hb
 cases hb
 exact hst rfl
theorem own_ne {W : World} {lo : Nat} {V : Value} {n : Nat} {xs : List Value} {b g : Nat} {u : Array Value} {s t : TypeId} {z : Nat} (ho : W.ownsRow lo t z V n xs) (hb : Blk W b u s) (hst : t ≠ s) (hg : V.ownBlock = some g) : g ≠ b := by
 obtain ⟨_, h2⟩ := ho
 rcases h2 with ⟨e0, _⟩ | ⟨g', cap, cur, e1, _, hk, _⟩
 ·rw [e0] at hg; cases hg
 ·rw [e1] at hg
  have : g' = g := by simpa [Value.ownBlock] using hg
  subst this
  exact type_ne hk hb hst

theorem own_form {W : World} {lo : Nat} {V : Value} {n : Nat} {xs : List Value} {t : TypeId} {z : Nat} (ho : W.ownsRow lo t z V n xs) : ∃ a c, V = .slice a n c := by
 rcases Go.Joins.ownsRow_forms ho with ⟨e0, e1⟩ | ⟨g, cap, e1⟩
 ·exact ⟨none, 0, by rw [e0, e1]⟩
 ·exact ⟨_, _, e1⟩

def copA (vs : List Value) (N : Nat) (x : EngM) (w1 : World) (k : Nat) (v : Value) (W : World) : Prop :=
 if k = 3 then ∃ g : Nat, v = .slice (some ⟨g, 0, none⟩) N N ∧ w1.heap.size ≤ g ∧ ∃ vs, vs.size = N * 2 ∧ Blk W g vs 59
 else if k = 6 then W.ownsRow w1.heap.size 69 3 v x.eng.bag.length (mailsL x.eng.bag)
 else if k = 7 then ∃ (g : Nat) (Bv : Value), v = .agg #[.slice (some ⟨g, 0, none⟩) N N, Bv] ∧ w1.heap.size ≤ g ∧ (∃ vs, vs.size = N * 2 ∧ Blk W g vs 59) ∧ W.ownsRow w1.heap.size 69 3 Bv x.eng.bag.length (mailsL x.eng.bag)
 else if k = 8 then ∃ ob : Nat, v = .pointer (some ⟨ob, 0, none⟩) ∧ w1.heap.size ≤ ob ∧ Blk W ob #[.slice none 0 0, .slice none 0 0] 31
 else vs[k]? = some v
theorem copA_keep {vs : List Value} {N : Nat} {x : EngM} {w1 : World} {k : Nat} {v : Value} {W W' : World} (hb : Below W.heap.size W W') (h : copA vs N x w1 k v W) : copA vs N x w1 k v W' := by
 unfold copA at h ⊢
 by_cases h3 : k = 3
 ·rw [if_pos h3] at h ⊢
  obtain ⟨g, h1, h2, u, h4, h5⟩ := h
  exact ⟨g, h1, h2, u, h4, h5.below hb h5.lt⟩
 rw [if_neg h3] at h ⊢
 by_cases h6 : k = 6
 ·rw [if_pos h6] at h ⊢
  exact owns_below h hb
 rw [if_neg h6] at h ⊢
 by_cases h7 : k = 7
 ·rw [if_pos h7] at h ⊢
  obtain ⟨g, B, h1, h2, ⟨u, h4, h5⟩, h8⟩ := h
  exact ⟨g, B, h1, h2, ⟨u, h4, h5.below hb h5.lt⟩, owns_below h8 hb⟩
 rw [if_neg h7] at h ⊢
 by_cases h8 : k = 8
 ·rw [if_pos h8] at h ⊢
  obtain ⟨o, h1, h2, h4⟩ := h
  exact ⟨o, h1, h2, h4.below hb h4.lt⟩
 rw [if_neg h8] at h ⊢
 exact h
theorem copA_get {vs : List Value} {N : Nat} {x : EngM} {w1 : World} {k : Nat} {v u : Value} {W : World} (h : copA vs N x w1 k v W) (hk : k ≠ 3 ∧ k ≠ 6 ∧ k ≠ 7 ∧ k ≠ 8) (hu : vs[k]? = some u) : v = u := by
 unfold copA at h
 rw [if_neg hk.1, if_neg hk.2.1, if_neg hk.2.2.1, if_neg hk.2.2.2, hu] at h
 exact (Option.some.inj h).symm

/-- What stands while a router is copied. -/
structure CG (w : World) (mid N : Nat) (x : EngM) (ob : Nat) (Bv : Value) (y : Lay) (k b5 : Nat) (rcs : Array Value) (w4 W : World) : Prop where
 inv : CInv w mid N x ob Bv y k W
 rt : Blk W b5 rcs 59
 below : Below w4.heap.size w4 W
theorem CG.keep {w : World} {mid N : Nat} {x : EngM} {ob : Nat} {Bv : Value} {y : Lay} {k b5 : Nat} {rcs : Array Value} {w4 W W' : World} (h : CG w mid N x ob Bv y k b5 rcs w4 W) (hb : Below W.heap.size W W') : CG w mid N x ob Bv y k b5 rcs w4 W' := ⟨h.inv.keep hb, h.rt.below hb h.rt.lt, h.below.trans (hb.mono h.below.size)⟩
def copB (vs : List Value) (N : Nat) (f : Nat → Int) (x : Mat) (w4 : World) (k : Nat) (v : Value) (W : World) : Prop :=
 if k = 5 then ∃ b c : Nat, v = .slice (some ⟨b, 0, none⟩) N c ∧ RowAt N f w4 W b
 else if k = 8 then ∃ (T : Nat) (vt : Array Value), v = .slice (some ⟨T, 0, none⟩) N N ∧ w4.heap.size ≤ T ∧ CopT w4.heap.size T N x vt N W
 else if k = 9 then ∃ (b c T : Nat) (vt : Array Value), v = .agg #[.slice (some ⟨b, 0, none⟩) N c, .slice (some ⟨T, 0, none⟩) N N] ∧ RowAt N f w4 W b ∧ w4.heap.size ≤ T ∧ CopT w4.heap.size T N x vt N W
 else vs[k]? = some v
theorem copB_keep {vs : List Value} {N : Nat} {f : Nat → Int} {x : Mat} {w4 : World} {k : Nat} {v : Value} {W W' : World} (hb : Below W.heap.size W W') (h : copB vs N f x w4 k v W) : copB vs N f x w4 k v W' := by
 unfold copB at h ⊢
 by_cases h5 : k = 5
 ·rw [if_pos h5] at h ⊢
  obtain ⟨b, c, h1, h2⟩ := h
  exact ⟨b, c, h1, h2.keep hb⟩
 rw [if_neg h5] at h ⊢
 by_cases h8 : k = 8
 ·rw [if_pos h8] at h ⊢
  obtain ⟨T, vt, h1, h2, h3⟩ := h
  exact ⟨T, vt, h1, h2, h3.below hb⟩
 rw [if_neg h8] at h ⊢
 by_cases h9 : k = 9
 ·rw [if_pos h9] at h ⊢
  obtain ⟨b, c, T, vt, h1, h2, h3, h4⟩ := h
  exact ⟨b, c, T, vt, h1, h2.keep hb, h3, h4.below hb⟩
 rw [if_neg h9] at h ⊢
 exact h
theorem copB_get {vs : List Value} {N : Nat} {f : Nat → Int} {x : Mat} {w4 : World} {k : Nat} {v u : Value} {W : World} (h : copB vs N f x w4 k v W) (hk : k ≠ 5 ∧ k ≠ 8 ∧ k ≠ 9) (hu : vs[k]? = some u) : v = u := by
 unfold copB at h
 rw [if_neg hk.1, if_neg hk.2.1, if_neg hk.2.2, hu] at h
 exact (Option.some.inj h).symm

theorem Tryz.infoRouter : (Tryz.prog.info? 59).map (fun i => (i.zero, i.size, i.bytes)) = some (some (.agg #[.slice none 0 0, .slice none 0 0]), 2, 48) := by kernel_rfl

set_option maxHeartbeats 4000000 in
theorem copied_any (x : EngM) (N : Nat) (w : World) (h : x.In w.heap.size w) (hgn : x.rs.gn = N) (hN0 : 0 < N) (hN6 : N ≤ 6) (hbn : x.bag.bn ≤ 120) (hrl : ∀ i, i < N → (x.rs.r i).rl = N) (hTl : ∀ i, i < N → (x.rs.r i).T.t.len = N) (hLL : ∀ i, i < N → ∀ q, q < N → (x.rs.r i).T.t.L q = if x.eng.told i q = true then N else 0) :
  Calls Tryz.prog 18 #[x.val] w fun r w' => CopAns w N x r w' := by
 obtain ⟨i1, hi1, hy0, hy1, hy2⟩ := info_parts Tryz.infoRouter
 have hmkR : ∀ u : World, (Instr.makeSlice 28 (.int .i64 (N : Int)) (.int .i64 (N : Int))).run Tryz.prog u = .ok (.slice (some ⟨u.heap.size, 0, none⟩) N N) (u.alloc (.cells (madeCells #[.slice none 0 0, .slice none 0 0] (N * 2)) 59)) := fun u => by
  have h := run_make (P := Tryz.prog) u 28 59 i1 (.agg #[.slice none 0 0, .slice none 0 0]) Tryz.underlying28 hi1 hy0 .i64 .i64 (N : Int) (N : Int) (by omega) (Int.le_refl _) (by rw [hy2]; omega) (by omega)
  simpa [hy1, Value.cells] using h
 have hcells : x.cells = #[.slice x.rs.ga N x.rs.gc, .slice x.bag.ba x.bag.bn x.bag.bc] := by simp only [EngM.cells, hgn]
 obtain ⟨W1, hW1⟩ : ∃ W1, W1 = (w.alloc (.cells x.cells 31)).alloc (.cells #[.slice none 0 0, .slice none 0 0] 31) := ⟨_, rfl⟩
 have hB1 : Below w.heap.size w W1 := by rw [hW1]; exact ((Below.refl _ w).alloc (Nat.le_refl _) _).alloc (by simp) _
 have b1 : Blk W1 w.heap.size x.cells 31 := by rw [hW1]; exact (Blk.new w _ _).alloc _
 have b2 : Blk W1 (w.heap.size + 1) #[.slice none 0 0, .slice none 0 0] 31 := by rw [hW1]; exact Blk.new' (by simp)
 have hs1 : W1.heap.size = w.heap.size + 1 + 1 := by rw [hW1]; simp
 have hI1 := h.below hB1 (Nat.le_refl _)
 have HCm := hide (fun W (hb : Below W1.heap.size W1 W) => cloneMail_any x.bag W ((hI1.bag.below (hb.mono hB1.size) (Nat.le_refl _)).mono (Nat.le_trans hB1.size hb.size)) hbn)
 have Hmk := hide hmkR
 have H := hide h
 have HB1 := hide hB1
 have Hb1 := hide b1
 have Hb2 := hide b2
 have Hs1 := hide hs1
 have Hcells := hide hcells
 have Hrl := hide hrl
 have HTl := hide hTl
 have HLL := hide hLL
 have Hgn := hide hgn
 rw [hcells] at hW1
 rw [EngM.val, hcells]
 have HW1 := hide hW1
 clear h hI1 hB1 b1 b2 hs1 hcells hrl hTl hLL hgn hW1 hmkR hi1 hy0 hy1 hy2
 go_enter Tryz.func18, Tryz.ntmps18
 go_wp2_with fail
 rw [← HW1.out]
 refine wp_region_end 9 _ (fun W => Below W1.heap.size W1 W) (copA [.pointer (some ⟨w.heap.size, 0, none⟩), .slice x.rs.ga N x.rs.gc, .int .i64 (N : Int), undef, .pointer (some ⟨w.heap.size, 1, none⟩), .slice x.bag.ba x.bag.bn x.bag.bc] N x W1) (fun t W => ∃ (ob : Nat) (Bv : Value) (y : Lay), t 8 = .pointer (some ⟨ob, 0, none⟩) ∧ CInv w W.heap.size N x ob Bv y 0 W ∧ y.gc = N) (by kernel_rfl) (by kernel_rfl) (by kernel_rfl) (by kernel_rfl) (by kernel_rfl) rfl ⟨rfl, rfl, rfl, Nat.le_refl _, fun _ _ => rfl⟩ ⟨?_, ?_, ?_, ?_, ?_, ?_, ?_, ?_, ?_, trivial⟩ ?_ ?_
 rotate_right
 ·intro t t0 W ht hG
  have h8 := ht 8 (by omega)
  clear ht
  simp only [fill, Act.put, List.setIfInBounds_toArray, List.set_cons_zero, List.set_cons_succ, Nat.zero_add, Nat.reduceAdd]
  obtain ⟨ob, Bv, y0, e8, hC, hgc⟩ := hG
  rw [e8] at h8
  simp only [h8]
  clear h8 e8
  have hga := H.out.rs.ga (by rw [Hgn.out]; exact hN0)
  obtain ⟨mid, hmid⟩ : ∃ mid, mid = W.heap.size := ⟨_, rfl⟩
  rw [← hmid] at hC
  have HC0 := hide (show ∃ y, CInv w mid N x ob Bv y 0 W ∧ y.gc = N from ⟨y0, hC, hgc⟩)
  have c0 := hC.box.cell 0
  simp [Hcells.out] at c0
  rw [hga] at c0
  simp only [hga]
  clear hC hgc hmid HCm Hmk hga Hb1 Hb2 HB1 HW1 Hs1
  go_wp2_with fail
  go_loopw [4, 5, 17] (fun _ _ q wr => ∃ k : Nat, k ≤ N ∧ q = .int .i64 k ∧ Hid (∃ y, CInv w mid N x ob Bv y k wr ∧ y.gc = N)) (fun _ _ q _ => N - (intOf q).toNat)
  case atStart => exact ⟨0, Nat.zero_le _, rfl, HC0⟩
  case round =>
   obtain ⟨k, hk, rfl, HI⟩ := hrel
   obtain ⟨y, hC, hgc⟩ := HI.out
   clear HI HC0
   by_cases hlt : k < N
   ·have hki : (k : Int) < (N : Int) := by omega
    have hI := H.out.below hC.below (Nat.le_refl _)
    have hkg : k < x.rs.gn := by rw [Hgn.out]; exact hlt
    have r0 := hI.rs.c0 k hkg
    have r1 := hI.rs.c1 k hkg
    rw [Hrl.out k hlt] at r0
    rw [HTl.out k hlt] at r1
    have hIr := hI.rs.r k hkg
    have hints := hIr.ints
    have hilt := hIr.lt
    rw [Hrl.out k hlt] at hints hilt
    obtain ⟨W4, hW4⟩ : ∃ W4, W4 = wr.alloc (.cells #[.slice (x.rs.r k).ra N (x.rs.r k).rc, .slice (x.rs.r k).T.ga N (x.rs.r k).T.cap] 59) := ⟨_, rfl⟩
    have hB4 : Below wr.heap.size wr W4 := by rw [hW4]; exact (Below.refl _ wr).alloc (Nat.le_refl _) _
    have b5 : Blk W4 wr.heap.size #[.slice (x.rs.r k).ra N (x.rs.r k).rc, .slice (x.rs.r k).T.ga N (x.rs.r k).T.cap] 59 := by rw [hW4]; exact Blk.new wr _ _
    have hC4 := hC.keep hB4
    have HG4 : Hid (CG w mid N x ob Bv y k wr.heap.size #[.slice (x.rs.r k).ra N (x.rs.r k).rc, .slice (x.rs.r k).T.ga N (x.rs.r k).T.cap] W4 W4) := hide ⟨hC4, b5, Below.refl _ _⟩
    have HCl := hide (fun Wz (hb : Below W4.heap.size W4 Wz) => clone_any (x.rs.r k).ra N (x.rs.r k).rc (x.rs.r k).rb (x.rs.r k).ro (x.rs.r k).R Wz ((hints.below hB4 (fun h0 => Nat.lt_of_lt_of_le (hilt h0) hC.below.size)).below hb (fun h0 => Nat.lt_of_lt_of_le (hilt h0) (Nat.le_trans hC.below.size hB4.size))) hN0 (by omega) (Nat.lt_of_lt_of_le (hilt hN0) (Nat.le_trans hC.below.size (Nat.le_trans hB4.size hb.size))))
    have HCo := hide (fun Wz (hb : Below W4.heap.size W4 Wz) => copyT_any (x.rs.r k).T N Wz (((hIr.T.below (hB4.mono hC.below.size) (Nat.le_refl _)).below (hb.mono (Nat.le_trans hC.below.size hB4.size)) (Nat.le_refl _)).mono (Nat.le_trans hC.below.size (Nat.le_trans hB4.size hb.size))) (HTl.out k hlt) (fun q hq => by rw [HLL.out k hlt q hq]; split <;> omega) (by omega))
    simp only [Mat.val, HTl.out k hlt] at HCo
    have Hgc := hide hgc
    have HW4 := hide hW4
    clear hI hIr hints hilt hC hC4 hB4 b5 hgc hW4 hkg
    go_wp2_with fail
    rw [← HW4.out]
    refine wp_region_last 11 _ (CG w mid N x ob Bv y k wr.heap.size #[.slice (x.rs.r k).ra N (x.rs.r k).rc, .slice (x.rs.r k).T.ga N (x.rs.r k).T.cap] W4) (copB [.pointer (some ⟨ob, 0, none⟩), .slice (some ⟨y.G, 0, none⟩) N N, .int .i64 (k : Int), .pointer (some ⟨wr.heap.size, 0, none⟩), .slice (x.rs.r k).ra N (x.rs.r k).rc, undef, .pointer (some ⟨wr.heap.size, 1, none⟩), .slice (x.rs.r k).T.ga N (x.rs.r k).T.cap, undef, undef, .pointer (some ⟨y.G, k * 2, none⟩)] N (x.rs.r k).R (x.rs.r k).T W4) (fun _ W => ∃ y, CInv w mid N x ob Bv y (k + 1) W ∧ y.gc = N) (fun _ _ _ => True) (by kernel_rfl) (by kernel_rfl) (by kernel_rfl) (by kernel_rfl) (by kernel_rfl) rfl (HG4.out.keep ⟨rfl, rfl, rfl, Nat.le_refl _, fun _ _ => rfl⟩) ⟨?_, ?_, ?_, ?_, ?_, ?_, ?_, ?_, ?_, ?_, ?_, trivial⟩ ?_ trivial ?_
    rotate_right
    ·intro t W hG _
     have HN := hide hG
     clear hG
     simp only [fill, Act.put, List.setIfInBounds_toArray, List.set_cons_zero, List.set_cons_succ]
     go_wp2
     go_roundw
     case rel =>
      first
      | exact ⟨k + 1, by omega, by go_num, HN⟩
      | ((repeat apply Exists.intro); refine ⟨?_, rfl⟩; exact ⟨k + 1, by omega, by go_num, HN⟩)
     case measure => simp [intOf]; omega
    rotate_right
    ·intro t W hG hE _ K hK
     have e10 := copB_get (hE 10 (by omega)) (by decide) rfl
     have h9 : ∃ (b c T : Nat) (vt : Array Value), t 9 = .agg #[.slice (some ⟨b, 0, none⟩) N c, .slice (some ⟨T, 0, none⟩) N N] ∧ RowAt N (x.rs.r k).R W4 W b ∧ W4.heap.size ≤ T ∧ CopT W4.heap.size T N (x.rs.r k).T vt N W := hE 9 (by omega)
     simp only [fill, Act.put, List.setIfInBounds_toArray, List.set_cons_zero, List.set_cons_succ, e10] at hK ⊢
     rw [if_pos (by rfl)]
     obtain ⟨b, c, T, vt, e9, hb, hT, hc⟩ := h9
     have h4 := HG4.out.inv
     have hbT : b ≠ T := fun e1 => by
      have h1 := hb.2.2 0 hN0
      obtain ⟨a9, c9, b9, h2, _⟩ := hc.row 0 hN0
      have h3 := hc.blk.cell 0
      rw [h2, ← e1, h1] at h3
      cases h3
     obtain ⟨y', hp, hG', hgc'⟩ := hG.inv.parts.put (tc := N) (c := c) hlt h4.md (fun i hi => (h4.parts.tolds i hi).lt) (fun i hi => (h4.parts.routes i hi).1.lt) (fun i hi q hq ht => (h4.parts.rows i hi q hq ht).2.1.lt) hb.1 hb.2.1 hb.2.2 hbT hT hc (HLL.out k hlt) (fun q hq => rfl) hN0
     have hci := hG.inv.put hp hG' hgc'
     have HN := hide (show ∃ y, CInv w mid N x ob Bv y (k + 1) _ ∧ y.gc = N from ⟨y', hci, by rw [hgc']; exact Hgc.out⟩)
     have hvz := hG.inv.parts.size
     have g0 := hG.inv.parts.rtrs.cell (k * 2)
     have g1 := hG.inv.parts.rtrs.cell (k * 2 + 1)
     rw [Array.getElem?_eq_getElem (by omega)] at g0 g1
     have gf0 := hG.inv.parts.rtrs.frozen (k * 2)
     have gf1 := hG.inv.parts.rtrs.frozen (k * 2 + 1)
     simp only [e9] at hK ⊢
     clear hci hp hc hb e9 e10 hE h4
     go_simp
     exact hK undef _ HN.out
    all_goals intro t W hG hp ht K hK
    all_goals clear ht
    all_goals simp only [fill, Act.put, List.setIfInBounds_toArray, List.set_cons_zero, List.set_cons_succ] at hK ⊢
    ·rw [if_pos (by rfl)]
     go_simp
     exact hK _ _ hG rfl (fun _ _ _ h => h)
    ·have e0 := copB_get (hp 0 (by decide)) (by decide) rfl
     have o0 := hG.inv.out.cell 0
     simp at o0
     rw [Hgc.out] at o0
     simp only [e0] at hK ⊢
     rw [if_pos (by rfl)]
     go_simp
     exact hK _ _ hG rfl (fun _ _ _ h => h)
    ·rw [if_pos (by rfl)]
     go_simp
     exact hK _ _ hG rfl (fun _ _ _ h => h)
    ·rw [if_pos (by rfl)]
     go_simp
     exact hK _ _ hG rfl (fun _ _ _ h => h)
    ·have e3 := copB_get (hp 3 (by decide)) (by decide) rfl
     have q0 := hG.rt.cell 0
     simp at q0
     simp only [e3] at hK ⊢
     rw [if_pos (by rfl)]
     go_simp
     exact hK _ _ hG rfl (fun _ _ _ h => h)
    ·have e4 := copB_get (hp 4 (by decide)) (by decide) rfl
     simp only [e4] at hK ⊢
     rw [if_pos (by rfl)]
     go_simp
     go_at_call 43
     refine (HCl.out W hG.below).mono ?_
     rintro r W' ⟨q, c, rfl, hb, h1, h2, h3⟩
     go_simp
     exact hK _ W' (hG.keep hb) ⟨q, c, rfl, by have := hG.below.size; omega, h2, h3⟩ (fun _ _ _ h => copB_keep hb h)
    ·rw [if_pos (by rfl)]
     go_simp
     exact hK _ _ hG rfl (fun _ _ _ h => h)
    ·have e6 := copB_get (hp 6 (by decide)) (by decide) rfl
     have q1 := hG.rt.cell 1
     simp at q1
     simp only [e6] at hK ⊢
     rw [if_pos (by rfl)]
     go_simp
     exact hK _ _ hG rfl (fun _ _ _ h => h)
    ·have e7 := copB_get (hp 7 (by decide)) (by decide) rfl
     simp only [e7] at hK ⊢
     rw [if_pos (by rfl)]
     go_simp
     go_at_call 44
     refine (HCo.out W hG.below).mono ?_
     rintro r W' ⟨⟨T, vt, rfl, h1, h2⟩, hb⟩
     go_simp
     exact hK _ W' (hG.keep hb) ⟨T, vt, rfl, by have := hG.below.size; omega, h2.mono hG.below.size⟩ (fun _ _ _ h => copB_keep hb h)
    ·have h5 : ∃ b c : Nat, t 5 = .slice (some ⟨b, 0, none⟩) N c ∧ RowAt N (x.rs.r k).R W4 W b := hp 5 (by decide)
     have h8 : ∃ (T : Nat) (vt : Array Value), t 8 = .slice (some ⟨T, 0, none⟩) N N ∧ W4.heap.size ≤ T ∧ CopT W4.heap.size T N (x.rs.r k).T vt N W := hp 8 (by decide)
     obtain ⟨b, c, e5, hb⟩ := h5
     obtain ⟨T, vt, e8, hT, hc⟩ := h8
     simp only [e5, e8] at hK ⊢
     rw [if_pos (by rfl)]
     go_simp
     exact hK _ W hG ⟨b, c, T, vt, rfl, hb, hT, hc⟩ (fun _ _ _ h => h)
    ·have e1 := copB_get (hp 1 (by decide)) (by decide) rfl
     have e2 := copB_get (hp 2 (by decide)) (by decide) rfl
     simp only [e1, e2] at hK ⊢
     rw [if_pos (by rfl)]
     go_simp
     exact hK _ _ hG rfl (fun _ _ _ h => h)
   ·have hkn : k = N := by omega
    subst hkn
    obtain ⟨ba', bc', hBv⟩ := own_form hC.bag
    have o0 := hC.out.cell 0
    have o1 := hC.out.cell 1
    have s0 := hC.res.cell 0
    have s1 := hC.res.cell 1
    have sf0 := hC.res.frozen 0
    have sf1 := hC.res.frozen 1
    have hres2 := (hC.res.set 0 (.slice (some ⟨y.G, 0, none⟩) k y.gc)).set 1 Bv
    have e0 := hres2.cell 0
    have e1 := hres2.cell 1
    simp at o0 o1 s0 s1 e0 e1
    have hlo := hC.lo
    have hom := hC.om
    have hbv : Bv.ownBlock ≠ some (w.heap.size + 1) := fun e2 => by have := (hC.bm _ e2).2.2.1; omega
    have HF : Hid (CopAns w k x (.returned (.agg #[.slice (some ⟨y.G, 0, none⟩) k y.gc, Bv])) ((wr.setCell ⟨w.heap.size + 1, 0, none⟩ (.slice (some ⟨y.G, 0, none⟩) k y.gc)).setCell ⟨w.heap.size + 1, 1, none⟩ Bv)) := hide ⟨mid, Bv, y, rfl, (hC.parts.setLow _ (by omega) (by omega)).setLow _ (by omega) (by omega), ownsRow_setCell_other (ownsRow_setCell_other hC.bag hbv _) hbv _, fun g hg => ⟨(hC.bm g hg).1, (hC.bm g hg).2.1⟩, by omega, (hC.below.setCell (p := ⟨w.heap.size + 1, 0, none⟩) (by show w.heap.size ≤ w.heap.size + 1; omega) _).setCell (p := ⟨w.heap.size + 1, 1, none⟩) (by show w.heap.size ≤ w.heap.size + 1; omega) _⟩
    rw [hBv] at o1 e0 e1 HF
    clear hC hres2 hbv hBv hlo hom hgc
    go_wp2
    exact bodyPost_ret (v := .agg #[.slice (some ⟨y.G, 0, none⟩) k y.gc, .slice ba' x.eng.bag.length bc']) (by simp [results, Tryz.results18, go_sem, e0, e1]) rfl HF.out
 rotate_right
 ·intro t W hG hE _ K hK
  have h7 : ∃ (g : Nat) (Bv : Value), t 7 = .agg #[.slice (some ⟨g, 0, none⟩) N N, Bv] ∧ W1.heap.size ≤ g ∧ (∃ vs, vs.size = N * 2 ∧ Blk W g vs 59) ∧ W.ownsRow W1.heap.size 69 3 Bv x.eng.bag.length (mailsL x.eng.bag) := hE 7 (by omega)
  have h8 : ∃ ob : Nat, t 8 = .pointer (some ⟨ob, 0, none⟩) ∧ W1.heap.size ≤ ob ∧ Blk W ob #[.slice none 0 0, .slice none 0 0] 31 := hE 8 (by omega)
  simp only [fill, Act.put, List.setIfInBounds_toArray, List.set_cons_zero, List.set_cons_succ, Nat.zero_add, Nat.reduceAdd] at hK ⊢
  rw [if_pos (by rfl)]
  obtain ⟨g, Bv, e7, hg, ⟨vs, hvs, hbg⟩, hown⟩ := h7
  obtain ⟨ob, e8, hob, hbo⟩ := h8
  obtain ⟨ba', bc', rfl⟩ := own_form hown
  have hgo : g ≠ ob := type_ne hbg hbo (by decide)
  have hs := Hs1.out
  have hbo2 := (hbo.set 0 (.slice (some ⟨g, 0, none⟩) N N)).set 1 (.slice ba' x.eng.bag.length bc')
  have hBwo : ∀ q, (Value.slice ba' x.eng.bag.length bc').ownBlock = some q → q < W.heap.size ∧ q ≠ g ∧ w.heap.size + 1 < q ∧ q ≠ ob := fun q hq => ⟨(hown.lt q hq).2, own_ne hown hbg (by decide) hq, by have := (hown.lt q hq).1; omega, own_ne hown hbo (by decide) hq⟩
  have hbv : (Value.slice ba' x.eng.bag.length bc').ownBlock ≠ some ob := fun e1 => (hBwo _ e1).2.2.2 rfl
  have hown2 : World.ownsRow ((W.setCell ⟨ob, 0, none⟩ (.slice (some ⟨g, 0, none⟩) N N)).setCell ⟨ob, 1, none⟩ (.slice ba' x.eng.bag.length bc')) w.heap.size 69 3 (.slice ba' x.eng.bag.length bc') x.eng.bag.length (mailsL x.eng.bag) := by
   refine ownsRow_setCell_other (ownsRow_setCell_other ?_ hbv _) hbv _
   refine ⟨hown.1, ?_⟩
   rcases hown.2 with h | ⟨g9, cap, cur, h1, h2, h3⟩
   ·exact Or.inl h
   ·exact Or.inr ⟨g9, cap, cur, h1, by omega, h3⟩
  have hCI : ∃ (ob' : Nat) (B2 : Value) (y : Lay), t 8 = .pointer (some ⟨ob', 0, none⟩) ∧ CInv w ((W.setCell ⟨ob, 0, none⟩ (.slice (some ⟨g, 0, none⟩) N N)).setCell ⟨ob, 1, none⟩ (.slice ba' x.eng.bag.length bc')).heap.size N x ob' B2 y 0 ((W.setCell ⟨ob, 0, none⟩ (.slice (some ⟨g, 0, none⟩) N N)).setCell ⟨ob, 1, none⟩ (.slice ba' x.eng.bag.length bc')) ∧ y.gc = N := by
   have hbb := Hb1.out.below hG Hb1.out.lt
   have hbr := Hb2.out.below hG Hb2.out.lt
   refine ⟨ob, .slice ba' x.eng.bag.length bc', ⟨g, N, vs, fun _ => 0, fun _ => 0, fun _ => 0, fun _ => 0, fun _ => #[], fun _ _ => none, fun _ _ => 0, fun _ _ => 0, fun _ _ => 0, g⟩, e8, ⟨?_, (hbb.other (by omega) _ _).other (by omega) _ _, (hbr.other (by omega) _ _).other (by omega) _ _, ?_, hown2, ⟨(hbg.other hgo _ _).other hgo _ _, hvs, ?_, fun i hi => absurd hi (Nat.not_lt_zero _), fun i hi => absurd hi (Nat.not_lt_zero _), fun i hi => absurd hi (Nat.not_lt_zero _), fun i hi => absurd hi (Nat.not_lt_zero _), fun i hi => absurd hi (Nat.not_lt_zero _), fun i hi => absurd hi (Nat.not_lt_zero _), fun i hi => absurd hi (Nat.not_lt_zero _), fun i q hi => absurd hi (Nat.not_lt_zero _), rfl⟩, ?_, ⟨?_, ?_, Ne.symm hgo⟩, fun q hq => ?_, Nat.le_refl _⟩, rfl⟩
   ·exact (((HB1.out.trans (hG.mono HB1.out.size)).setCell (p := ⟨ob, 0, none⟩) (by show w.heap.size ≤ ob; omega) _).setCell (p := ⟨ob, 1, none⟩) (by show w.heap.size ≤ ob; omega) _)
   ·simpa using hbo2
   ·show g < (World.heap _).size; have := hbg.lt; simpa using this
   ·show w.heap.size + 1 < g; omega
   ·have := hbo.lt; simpa using this
   ·omega
   ·obtain ⟨q1, q2, q3, q4⟩ := hBwo q hq
    exact ⟨by simpa using q1, q2, q3, q4⟩
  have c0 := hbo.cell 0
  have c1 := hbo.cell 1
  have f0 := hbo.frozen 0
  have f1 := hbo.frozen 1
  simp at c0 c1
  have HCI := hide hCI
  simp only [e7, e8] at hK ⊢
  simp only [e8] at HCI
  clear hCI hown2 hbv hBwo hbo2 hgo hbo hbg hown hE e7 e8
  go_simp
  exact hK undef _ HCI.out
 all_goals intro t W hG hp ht K hK
 all_goals clear ht
 all_goals simp only [fill, Act.put, List.setIfInBounds_toArray, List.set_cons_zero, List.set_cons_succ] at hK ⊢
 ·rw [if_pos (by rfl)]
  go_simp
  exact hK _ _ hG rfl (fun _ _ _ h => h)
 ·have e0 := copA_get (hp 0 (by decide)) (by decide) rfl
  have x0 := (Hb1.out.below hG Hb1.out.lt).cell 0
  simp [Hcells.out] at x0
  simp only [e0] at hK ⊢
  rw [if_pos (by rfl)]
  go_simp
  exact hK _ _ hG rfl (fun _ _ _ h => h)
 ·have e1 := copA_get (hp 1 (by decide)) (by decide) rfl
  simp only [e1] at hK ⊢
  rw [if_pos (by rfl)]
  go_simp
  exact hK _ _ hG rfl (fun _ _ _ h => h)
 ·have e2 := copA_get (hp 2 (by decide)) (by decide) rfl
  have hm := Hmk.out W
  simp only [e2] at hK ⊢
  rw [if_pos (by rfl)]
  go_simp
  have hbw : Below W.heap.size W (W.alloc (.cells (madeCells #[.slice none 0 0, .slice none 0 0] (N * 2)) 59)) := (Below.refl _ W).alloc (Nat.le_refl _) _
  exact hK _ _ (hG.trans (hbw.mono hG.size)) ⟨W.heap.size, rfl, hG.size, _, size_madeCells _ _, Blk.new W _ _⟩ (fun _ _ _ h => copA_keep hbw h)
 ·rw [if_pos (by rfl)]
  go_simp
  exact hK _ _ hG rfl (fun _ _ _ h => h)
 ·have e4 := copA_get (hp 4 (by decide)) (by decide) rfl
  have x1 := (Hb1.out.below hG Hb1.out.lt).cell 1
  simp [Hcells.out] at x1
  simp only [e4] at hK ⊢
  rw [if_pos (by rfl)]
  go_simp
  exact hK _ _ hG rfl (fun _ _ _ h => h)
 ·have e5 := copA_get (hp 5 (by decide)) (by decide) rfl
  simp only [e5] at hK ⊢
  rw [if_pos (by rfl)]
  go_simp
  go_at_call 42
  refine (HCm.out W hG).mono ?_
  rintro r W' ⟨⟨v, rfl, ho⟩, hb⟩
  go_simp
  exact hK _ W' (hG.trans (hb.mono hG.size)) (by show World.ownsRow W' W1.heap.size 69 3 v _ _; refine ⟨ho.1, ?_⟩; rcases ho.2 with h | ⟨g9, cap, cur, h1, h2, h3⟩; exact Or.inl h; exact Or.inr ⟨g9, cap, cur, h1, Nat.le_trans hG.size h2, h3⟩) (fun _ _ _ h => copA_keep hb h)
 ·have h3 : ∃ g : Nat, t 3 = .slice (some ⟨g, 0, none⟩) N N ∧ W1.heap.size ≤ g ∧ ∃ vs, vs.size = N * 2 ∧ Blk W g vs 59 := hp 3 (by decide)
  have h6 : W.ownsRow W1.heap.size 69 3 (t 6) x.eng.bag.length (mailsL x.eng.bag) := hp 6 (by decide)
  obtain ⟨g, e3, hg, hb⟩ := h3
  obtain ⟨ba', bc', e6⟩ := own_form h6
  rw [e6] at h6
  simp only [e3, e6] at hK ⊢
  rw [if_pos (by rfl)]
  go_simp
  exact hK _ W hG ⟨g, _, rfl, hg, hb, h6⟩ (fun _ _ _ h => h)
 ·rw [if_pos (by rfl)]
  go_simp
  have hbw : Below W.heap.size W (W.alloc (.cells #[.slice none 0 0, .slice none 0 0] 31)) := (Below.refl _ W).alloc (Nat.le_refl _) _
  exact hK _ _ (hG.trans (hbw.mono hG.size)) ⟨W.heap.size, rfl, hG.size, Blk.new W _ _⟩ (fun _ _ _ h => copA_keep hbw h)

end Go.Proofs.YtjhkadffaephmabGreat

/-
  An engine that was changed, as one that lies in memory.
-/
namespace Go.Proofs.YtjhkadffaephmabGreat
set_option maxRecDepth 100000
open Go.RowKit

theorem range_getD (l : List Mail) : (List.range l.length).map (fun i => l.getD i noMail) = l := by
  apply List.ext_getElem?
  intro i
  by_cases h : i < l.length
  · simp [List.getElem?_map, List.getElem?_range h, List.getD_eq_getElem?_getD, List.getElem?_eq_getElem h]
  · rw [List.getElem?_eq_none (by simp; omega), List.getElem?_eq_none (by omega)]

/-- All that an engine holds lies from lo on. -/
structure EngM.From (x : EngM) (lo : Nat) : Prop where
  g : 0 < x.rs.gn → lo ≤ x.rs.gb
  r : ∀ i, i < x.rs.gn → (0 < (x.rs.r i).rl → lo ≤ (x.rs.r i).rb) ∧ (x.rs.r i).T.From lo
  b : 0 < x.bag.bn → lo ≤ x.bag.bb
  cap : x.bag.bn ≤ x.bag.bc
theorem EngM.From.mono {x : EngM} {lo lo' : Nat} (h : x.From lo) (hl : lo' ≤ lo) : x.From lo' :=
  ⟨fun h0 => Nat.le_trans hl (h.g h0), fun i hi => ⟨fun h0 => Nat.le_trans hl ((h.r i hi).1 h0), (h.r i hi).2.mono hl⟩, fun h0 => Nat.le_trans hl (h.b h0), h.cap⟩

theorem own_cap {W : World} {lo : Nat} {a : Option Addr} {k c n : Nat} {xs : List Value} {t : TypeId} {z : Nat} (ho : W.ownsRow lo t z (.slice a k c) n xs) (hk : k = n) : k ≤ c := by
  obtain ⟨_, h2⟩ := ho
  rcases h2 with ⟨e0, e1⟩ | ⟨g, cap, cur, e1, _, _, hn, _⟩
  · have : k = 0 := by simpa using congrArg (fun v => match v with | Value.slice _ l _ => l | _ => 0) e0
    omega
  · have h1 : c = cap := by simpa using congrArg (fun v => match v with | Value.slice _ _ d => d | _ => 0) e1
    omega
structure Mat.Clear (m : Mat) (q : Nat) : Prop where
  gb : 0 < m.t.len → m.gb ≠ q
  rows : ∀ r, r < m.t.len → 0 < m.t.L r → m.RB r ≠ q
structure EngM.Clear (x : EngM) (q : Nat) : Prop where
  g : 0 < x.rs.gn → x.rs.gb ≠ q
  r : ∀ i, i < x.rs.gn → (0 < (x.rs.r i).rl → (x.rs.r i).rb ≠ q) ∧ (x.rs.r i).T.Clear q
  b : 0 < x.bag.bn → x.bag.bb ≠ q
/-- Nothing of an engine lies in a block that holds an engine's head. -/
def EngM.Apart (x : EngM) (W : World) : Prop := ∀ q a l c a' l' c', Blk W q #[.slice a l c, .slice a' l' c'] 31 → x.Clear q

theorem Live.outF {base P N : Nat} {e : Eng} {Bv : Value} {y : Lay} {W : World} (h : Live base P N e Bv y W) (hN0 : 0 < N) (hN6 : N ≤ 6) (hb : e.bag.length ≤ 120) (hl : ∀ m ∈ e.bag, m.b.length ≤ 60) :
    ∃ m : EngM, m.cells = #[.slice (some ⟨y.G, 0, none⟩) N y.gc, Bv] ∧ m.In W.heap.size W ∧ m.eng = e ∧ m.rs.gn = N ∧ (∀ i, i < N → (m.rs.r i).rl = N) ∧ (∀ i, i < N → (m.rs.r i).T.t.len = N) ∧ (∀ i, i < N → ∀ q, q < N → (m.rs.r i).T.t.L q = if e.told i q = true then N else 0) ∧ m.bag.bn = e.bag.length ∧ m.From base ∧ m.Apart W := by
  obtain ⟨rs, hrs⟩ : ∃ rs : RtrsM, rs = ⟨some ⟨y.G, 0, none⟩, N, y.gc, y.G, 0, fun i => ⟨some ⟨y.rb i, 0, none⟩, N, y.rc i, y.rb i, 0, e.R i, ⟨some ⟨y.Tb i, 0, none⟩, y.Tb i, 0, y.Tc i, fun q => y.ta i q, fun q => y.tc i q, fun q => y.db i q, fun q => y.dn i q, ⟨N, fun q => if e.told i q = true then N else 0, e.D i⟩⟩⟩⟩ := ⟨_, rfl⟩
  have hrin : rs.In W.heap.size W := by
    subst hrs
    refine ⟨fun _ => rfl, fun _ => h.rtrs.lt, fun i hi => ?_, fun i hi => ?_, fun i hi => ?_, by show N ≤ _; unfold maxLen; omega⟩
    · show W.cell? ⟨y.G, 0 + i * 2, none⟩ = _
      rw [Nat.zero_add, h.rtrs.cell]; exact h.r0 i hi
    · show W.cell? ⟨y.G, 0 + i * 2 + 1, none⟩ = _
      rw [Nat.zero_add, h.rtrs.cell]; exact h.r1 i hi
    · have hi' : i < N := hi
      obtain ⟨h1, h2⟩ := h.routes i hi'
      refine ⟨⟨fun _ => rfl, fun j hj => by show W.cell? ⟨y.rb i, 0 + j, none⟩ = _; rw [Nat.zero_add]; exact h2 j hj, by show N ≤ _; unfold maxLen; omega⟩, fun _ => h1.lt, ?_⟩
      refine ⟨fun _ => rfl, fun _ => (h.tolds i hi').lt, fun r hr => ?_, fun r hr h0 => ?_, fun r hr c hc => ?_, by show N ≤ _; unfold maxLen; omega, fun r hr => ?_⟩
      · show W.cell? ⟨y.Tb i, 0 + r, none⟩ = _
        rw [Nat.zero_add, (h.tolds i hi').cell]; exact h.t0 i hi' r hr
      · have h0' : 0 < (if e.told i r = true then N else 0) := h0
        split at h0'
        · next ht => exact ⟨(h.rows i hi' r hr ht).1, (h.rows i hi' r hr ht).2.1.lt⟩
        · exact absurd h0' (Nat.lt_irrefl _)
      · have hc' : c < (if e.told i r = true then N else 0) := hc
        split at hc'
        · next ht => exact (h.rows i hi' r hr ht).2.2 c hc'
        · exact absurd hc' (Nat.not_lt_zero _)
      · show (if e.told i r = true then N else 0) ≤ _
        unfold maxLen; split <;> omega
  obtain ⟨bag, hbv, hbin, hbn, hM⟩ : ∃ bag : BagM, Bv = .slice bag.ba bag.bn bag.bc ∧ (bag.In W.heap.size W ∧ (0 < bag.bn → base ≤ bag.bb) ∧ (0 < bag.bn → Bv.ownBlock = some bag.bb)) ∧ bag.bn = e.bag.length ∧ bag.M = fun i => e.bag.getD i noMail := by
    by_cases h0 : 0 < e.bag.length
    · obtain ⟨g, cap, hBv, _⟩ := h.mail h0
      have hlt := (h.bag.lt g (by rw [hBv]; rfl)).2
      have hat : ∀ i, i < e.bag.length → W.cell? ⟨g, i * 3, none⟩ = some (.int .i64 (e.bag.getD i noMail).F) ∧ W.cell? ⟨g, i * 3 + 1, none⟩ = some (.int .i64 (e.bag.getD i noMail).T) ∧ W.cell? ⟨g, i * 3 + 2, none⟩ = some (.string ⟨(e.bag.getD i noMail).b.toArray⟩) := fun i hi => by
        obtain ⟨g', cap', hBv', q0, q1, q2⟩ := h.mail hi
        rw [hBv] at hBv'
        obtain ⟨rfl, rfl⟩ : g = g' ∧ cap = cap' := by simpa using hBv'
        exact ⟨q0, q1, q2⟩
      refine ⟨⟨some ⟨g, 0, none⟩, e.bag.length, cap, g, 0, fun i => e.bag.getD i noMail⟩, hBv, ⟨⟨fun _ => rfl, fun _ => hlt, fun i hi => ?_, fun i hi => ?_, fun i hi => ?_, by show e.bag.length ≤ _; unfold maxLen; omega, fun i hi => ?_⟩, fun _ => (h.bag.lt g (by rw [hBv]; rfl)).1, fun _ => by rw [hBv]; rfl⟩, rfl, rfl⟩
      · show W.cell? ⟨g, 0 + i * 3, none⟩ = _; rw [Nat.zero_add]; exact (hat i hi).1
      · show W.cell? ⟨g, 0 + i * 3 + 1, none⟩ = _; rw [Nat.zero_add]; exact (hat i hi).2.1
      · show W.cell? ⟨g, 0 + i * 3 + 2, none⟩ = _; rw [Nat.zero_add]; exact (hat i hi).2.2
      · have := hl _ (getD_mem (d := noMail) (show i < e.bag.length from hi))
        show (e.bag.getD i noMail).b.length ≤ _
        unfold maxLen; omega
    · have h00 : e.bag.length = 0 := by omega
      obtain ⟨a, c, hBv⟩ : ∃ a c, Bv = .slice a e.bag.length c := by
        rcases Go.Joins.ownsRow_forms h.bag with ⟨e0, e1⟩ | ⟨g, cap, e1⟩
        · exact ⟨none, 0, by rw [e0, e1]⟩
        · exact ⟨_, _, e1⟩
      exact ⟨⟨a, e.bag.length, c, 0, 0, fun i => e.bag.getD i noMail⟩, hBv, ⟨⟨fun h1 => absurd h1 h0, fun h1 => absurd h1 h0, fun i hi => absurd (Nat.lt_of_le_of_lt (Nat.zero_le _) hi) h0, fun i hi => absurd (Nat.lt_of_le_of_lt (Nat.zero_le _) hi) h0, fun i hi => absurd (Nat.lt_of_le_of_lt (Nat.zero_le _) hi) h0, by show e.bag.length ≤ _; unfold maxLen; omega, fun i hi => absurd (Nat.lt_of_le_of_lt (Nat.zero_le _) hi) h0⟩, fun h1 => absurd h1 h0, fun h1 => absurd h1 h0⟩, rfl, rfl⟩
  refine ⟨⟨rs, bag⟩, ?_, ⟨hrin, hbin.1⟩, ?_, by rw [hrs], fun i hi => by rw [hrs], fun i hi => by rw [hrs], fun i hi q hq => by rw [hrs], hbn, ⟨fun _ => by rw [hrs]; exact h.lg, fun i hi => ?_, hbin.2.1, own_cap (show W.ownsRow base 69 3 (.slice bag.ba bag.bn bag.bc) e.bag.length (mailsL e.bag) from hbv ▸ h.bag) hbn⟩, fun q a l c a' l' c' hq => ⟨fun _ => ?_, fun i hi => ?_, fun h0 => ?_⟩⟩
  · show #[Value.slice rs.ga rs.gn rs.gc, Value.slice bag.ba bag.bn bag.bc] = _
    rw [← hbv, hrs]
  · have hbag : (List.range bag.bn).map bag.M = e.bag := by rw [hbn, hM]; exact range_getD e.bag
    have htold : (fun i k => decide ((rs.r i).T.t.L k ≠ 0)) = e.told := by
      funext i k
      rw [hrs]
      show decide ((if e.told i k = true then N else 0) ≠ 0) = e.told i k
      cases ht : e.told i k with
      | true => simp; omega
      | false => simp
    show (⟨fun i => (rs.r i).R, fun i k => decide ((rs.r i).T.t.L k ≠ 0), fun i k => (rs.r i).T.t.Z k, (List.range bag.bn).map bag.M⟩ : Eng) = e
    rw [hbag, htold, hrs]
  · rw [hrs] at hi ⊢
    have hy := h.ylo.1
    refine ⟨fun _ => Nat.le_trans hy (h.routes i hi).1.lo, ⟨fun _ => h.lt i hi, fun q hq h0 => ?_⟩⟩
    have h0' : 0 < (if e.told i q = true then N else 0) := h0
    split at h0'
    · next ht => exact Nat.le_trans hy (h.rows i hi q hq ht).2.1.lo
    · exact absurd h0' (Nat.lt_irrefl _)
  · rw [hrs]; exact type_ne h.rtrs hq (by decide)
  · rw [hrs] at hi ⊢
    have hno : ∀ b o z, W.cell? ⟨b, o, none⟩ = some (.int .i64 z) → b ≠ q := fun b o z hc e1 => by
      subst e1
      rw [hq.cell o] at hc
      rcases o with _ | _ | o
      · simp at hc
      · simp at hc
      · simp at hc
    refine ⟨fun _ => hno _ _ _ ((h.routes i hi).2 0 hN0), ⟨fun _ => type_ne (h.tolds i hi) hq (by decide), fun r hr h0 => ?_⟩⟩
    have h0' : 0 < (if e.told i r = true then N else 0) := h0
    split at h0'
    · next ht => exact hno _ _ _ ((h.rows i hi r hr ht).2.2 0 hN0)
    · exact absurd h0' (Nat.lt_irrefl _)
  · exact own_ne h.bag hq (by decide) (hbin.2.2 h0)
theorem Live.out {base P N : Nat} {e : Eng} {Bv : Value} {y : Lay} {W : World} (h : Live base P N e Bv y W) (hN0 : 0 < N) (hN6 : N ≤ 6) (hb : e.bag.length ≤ 120) (hl : ∀ m ∈ e.bag, m.b.length ≤ 60) :
    ∃ m : EngM, m.cells = #[.slice (some ⟨y.G, 0, none⟩) N y.gc, Bv] ∧ m.In W.heap.size W ∧ m.eng = e ∧ m.rs.gn = N ∧ (∀ i, i < N → (m.rs.r i).rl = N) ∧ (∀ i, i < N → (m.rs.r i).T.t.len = N) ∧ (∀ i, i < N → ∀ q, q < N → (m.rs.r i).T.t.L q = if e.told i q = true then N else 0) ∧ m.bag.bn = e.bag.length := by
  obtain ⟨m, h1, h2, h3, h4, h5, h6, h7, h8, _, _⟩ := h.outF hN0 hN6 hb hl
  exact ⟨m, h1, h2, h3, h4, h5, h6, h7, h8⟩

end Go.Proofs.YtjhkadffaephmabGreat
