/-
  signpostref.PairOf: the walk.
-/
import Derived.Test.YtjhkadffaephmaaRefPairC
import Derived.Deep.RegionLaw
namespace Go.Proofs.Ytjhkadffaephmaa
set_option maxRecDepth 100000
open Go.RowKit

theorem OwnTab.form {lo hi : Nat} {V : Value} {n p : Nat} {Z : Nat → Nat → Int} {w : World} (h : OwnTab lo hi V n p Z w) : ∃ ga cap, V = .slice ga n cap := by
  obtain ⟨g, c, k1, _⟩ := h
  rcases Go.Joins.ownsRow_forms k1 with ⟨rfl, rfl⟩ | ⟨gb, cap, rfl⟩
  · exact ⟨_, _, rfl⟩
  · exact ⟨_, _, rfl⟩

theorem owns_drewN {w : World} {base : Nat} {e : TypeId} {size : Nat} {v : Value} {n : Nat} {xs : List Value} (h : w.ownsRow base e size v n xs) (m : Nat) : (w.drewN m).ownsRow base e size v n xs := h

theorem AtSees.drewN {s1 s2 b9 b5 b6 gp gq cp cq : Nat} {W : World} (h : AtSees s1 s2 b9 b5 b6 gp gq cp cq W) (n : Nat) : AtSees s1 s2 b9 b5 b6 gp gq cp cq (W.drewN n) := ⟨h.last, h.ps, h.qs, h.pc, h.qc⟩

theorem pairBest_eq {x y : NAlg} {p s2 : Nat} (h1 : x.size = p + 1) (h2 : y.size = s2 + 1) (a b : Nat) : pairBest x y a b = if a = p * s2 then b else if b = p * s2 then a else if a / s2 = b / s2 then a / s2 * s2 + y.best (a % s2) (b % s2) else if x.best (a / s2) (b / s2) = a / s2 then a else b := by
  unfold pairBest
  simp [h1, h2]
theorem pairEdge_eq {x y : NAlg} {p s2 : Nat} (h1 : x.size = p + 1) (h2 : y.size = s2 + 1) (e a : Nat) : pairEdge x y e a = if a = p * s2 then p * s2 else if x.edge e (a / s2) = p ∨ y.edge e (a % s2) = s2 then p * s2 else x.edge e (a / s2) * s2 + y.edge e (a % s2) := by
  unfold pairEdge
  simp [h1, h2]

set_option maxRecDepth 100000 in
set_option maxHeartbeats 8000000 in
theorem refPair_any (mx my : AlgM) (x y : NAlg) (w : World) (lx : LiesA mx x) (ly : LiesA my y) (ix : mx.In w.heap.size w) (iy : my.In w.heap.size w) (hx : x.Ok) (hy : y.Ok) (hel : x.el = y.el) (hsz : (x.size - 1) * (y.size - 1) + 1 ≤ 24) :
    Calls Try.prog 109 #[mx.val, my.val] w fun e w' => RefMade (pairN x y) w.heap.size e w' ∧ Below w.heap.size w w' := by
  have ex := lx.size
  have ey := ly.size
  have exB : mx.B.t.len = x.size := by rw [lx.B]; rfl
  have eyB : my.B.t.len = y.size := by rw [ly.B]; rfl
  have exE : mx.E.t.len = x.el := by rw [lx.E]; rfl
  have eyE : my.E.t.len = x.el := by rw [ly.E, hel]; rfl
  have lox := hx.lo
  have loy := hy.lo
  have hix := hx.hi
  have hiy := hy.hi
  have he8 := hx.el
  simp only [AlgM.val, Mat.val, ex, ey, exB, eyB, exE, eyE]
  have b0 : Blk (((((w.alloc (.cells #[.int .i64 x.size, .slice mx.B.ga x.size mx.B.cap, .slice mx.E.ga x.el mx.E.cap] 24)).alloc (.cells #[.int .i64 y.size, .slice my.B.ga y.size my.B.cap, .slice my.E.ga x.el my.E.cap] 24)).alloc (.cells #[.int .i64 0, .slice none 0 0, .slice none 0 0] 24)).alloc (.cells #[.slice none 0 0] 32)).alloc (.cells #[.slice none 0 0] 32)) w.heap.size #[.int .i64 x.size, .slice mx.B.ga x.size mx.B.cap, .slice mx.E.ga x.el mx.E.cap] 24 := ((((Blk.new w _ _).alloc _).alloc _).alloc _).alloc _
  have b1 : Blk (((((w.alloc (.cells #[.int .i64 x.size, .slice mx.B.ga x.size mx.B.cap, .slice mx.E.ga x.el mx.E.cap] 24)).alloc (.cells #[.int .i64 y.size, .slice my.B.ga y.size my.B.cap, .slice my.E.ga x.el my.E.cap] 24)).alloc (.cells #[.int .i64 0, .slice none 0 0, .slice none 0 0] 24)).alloc (.cells #[.slice none 0 0] 32)).alloc (.cells #[.slice none 0 0] 32)) (w.heap.size + 1) #[.int .i64 y.size, .slice my.B.ga y.size my.B.cap, .slice my.E.ga x.el my.E.cap] 24 := (((Blk.new' (by simp)).alloc _).alloc _).alloc _
  have b2 : Blk (((((w.alloc (.cells #[.int .i64 x.size, .slice mx.B.ga x.size mx.B.cap, .slice mx.E.ga x.el mx.E.cap] 24)).alloc (.cells #[.int .i64 y.size, .slice my.B.ga y.size my.B.cap, .slice my.E.ga x.el my.E.cap] 24)).alloc (.cells #[.int .i64 0, .slice none 0 0, .slice none 0 0] 24)).alloc (.cells #[.slice none 0 0] 32)).alloc (.cells #[.slice none 0 0] 32)) (w.heap.size + 1 + 1) #[.int .i64 0, .slice none 0 0, .slice none 0 0] 24 := ((Blk.new' (by simp)).alloc _).alloc _
  have b3 : Blk (((((w.alloc (.cells #[.int .i64 x.size, .slice mx.B.ga x.size mx.B.cap, .slice mx.E.ga x.el mx.E.cap] 24)).alloc (.cells #[.int .i64 y.size, .slice my.B.ga y.size my.B.cap, .slice my.E.ga x.el my.E.cap] 24)).alloc (.cells #[.int .i64 0, .slice none 0 0, .slice none 0 0] 24)).alloc (.cells #[.slice none 0 0] 32)).alloc (.cells #[.slice none 0 0] 32)) (w.heap.size + 1 + 1 + 1) #[.slice none 0 0] 32 := (Blk.new' (by simp)).alloc _
  have b4 : Blk (((((w.alloc (.cells #[.int .i64 x.size, .slice mx.B.ga x.size mx.B.cap, .slice mx.E.ga x.el mx.E.cap] 24)).alloc (.cells #[.int .i64 y.size, .slice my.B.ga y.size my.B.cap, .slice my.E.ga x.el my.E.cap] 24)).alloc (.cells #[.int .i64 0, .slice none 0 0, .slice none 0 0] 24)).alloc (.cells #[.slice none 0 0] 32)).alloc (.cells #[.slice none 0 0] 32)) (w.heap.size + 1 + 1 + 1 + 1) #[.slice none 0 0] 32 := Blk.new' (by simp)
  have hb0 : Below w.heap.size w (((((w.alloc (.cells #[.int .i64 x.size, .slice mx.B.ga x.size mx.B.cap, .slice mx.E.ga x.el mx.E.cap] 24)).alloc (.cells #[.int .i64 y.size, .slice my.B.ga y.size my.B.cap, .slice my.E.ga x.el my.E.cap] 24)).alloc (.cells #[.int .i64 0, .slice none 0 0, .slice none 0 0] 24)).alloc (.cells #[.slice none 0 0] 32)).alloc (.cells #[.slice none 0 0] 32)) := (((((Below.refl _ w).alloc (Nat.le_refl _) _).alloc (by simp) _).alloc (by simp; omega) _).alloc (by simp; omega) _).alloc (by simp; omega) _
  have HEL := hide hel
  obtain ⟨i1, hi1, hy0, hy1, hy2⟩ := info_parts Try.infoInt
  obtain ⟨i2, hi2, hx0, hx1, hx2⟩ := info_parts Try.infoInts
  clear hel ex ey exB eyB exE eyE
  obtain ⟨s1, hs1⟩ : ∃ s1, x.size = s1 + 1 := ⟨x.size - 1, by omega⟩
  obtain ⟨s2, hs2⟩ : ∃ s2, y.size = s2 + 1 := ⟨y.size - 1, by omega⟩
  have h24 : s1 * s2 ≤ 23 := by
    have e1 : x.size - 1 = s1 := by omega
    have e2 : y.size - 1 = s2 := by omega
    rw [e1, e2] at hsz
    omega
  have Hs1 := hide hs1
  have Hs2 := hide hs2
  have xs1 := hide (show (x.size : Int) = (s1 : Int) + 1 by omega)
  have ys1 := hide (show (y.size : Int) = (s2 : Int) + 1 by omega)
  have hs1i : (s1 : Int) ≤ 24 := by omega
  have hs2i : (s2 : Int) ≤ 24 := by omega
  clear hs1 hs2
  go_enter Try.func109, Try.ntmps109
  go_wp2_with fail
  generalize hW : (((((w.alloc (.cells #[.int .i64 x.size, .slice mx.B.ga x.size mx.B.cap, .slice mx.E.ga x.el mx.E.cap] 24)).alloc (.cells #[.int .i64 y.size, .slice my.B.ga y.size my.B.cap, .slice my.E.ga x.el my.E.cap] 24)).alloc (.cells #[.int .i64 0, .slice none 0 0, .slice none 0 0] 24)).alloc (.cells #[.slice none 0 0] 32)).alloc (.cells #[.slice none 0 0] 32)) = W3 at *
  have hws : W3.heap.size = w.heap.size + 5 := by rw [← hW]; simp
  clear hW
  go_loopw [7] (fun i wr => ∃ (p : Nat) (V5 V6 : Value), p ≤ s1 ∧ i = .int .i64 p ∧ Hid (PQ (w.heap.size + 5) (w.heap.size + 1 + 1 + 1) (w.heap.size + 1 + 1 + 1 + 1) V5 V6 (p * s2) (fun i => ((i / s2 : Nat) : Int)) (fun i => ((i % s2 : Nat) : Int)) wr) ∧ Hid (Below (w.heap.size + 1 + 1 + 1) W3 wr)) (fun i _ => s1 - (intOf i).toNat)
  case atStart => exact ⟨0, _, _, Nat.zero_le _, rfl, hide (by rw [Nat.zero_mul]; exact ⟨b3, b4, World.ownsRow_nil _ _ _ _, World.ownsRow_nil _ _ _ _, fun j hj => (by cases hj)⟩), hide (Below.refl _ _)⟩
  case round =>
    obtain ⟨p, V5, V6, hp, rfl, HPQ, HB⟩ := hrel
    have b0' := b0.below HB.out (by omega)
    have b1' := b1.below HB.out (by omega)
    have x0 := b0'.cell 0
    have y0 := b1'.cell 0
    simp at x0 y0
    rw [xs1.out] at x0
    rw [ys1.out] at y0
    by_cases hlt : p < s1
    · have hpi : (p : Int) < (s1 : Int) := by omega
      go_wp2_with fail
      go_loopw [8] (fun j wx => ∃ (q : Nat) (V5 V6 : Value), q ≤ s2 ∧ j = .int .i64 q ∧ Hid (PQ (w.heap.size + 5) (w.heap.size + 1 + 1 + 1) (w.heap.size + 1 + 1 + 1 + 1) V5 V6 (p * s2 + q) (fun i => ((i / s2 : Nat) : Int)) (fun i => ((i % s2 : Nat) : Int)) wx) ∧ Hid (Below (w.heap.size + 1 + 1 + 1) W3 wx)) (fun j _ => s2 - (intOf j).toNat)
      case atStart => exact ⟨0, _, _, Nat.zero_le _, rfl, HPQ, HB⟩
      case round =>
        clear HPQ HB b0' b1' x0 y0
        obtain ⟨q, V5, V6, hq, rfl, HPQ, HB⟩ := hrel
        have b1' := b1.below HB.out (by omega)
        have y0 := b1'.cell 0
        simp at y0
        rw [ys1.out] at y0
        by_cases hqlt : q < s2
        · have hqi : (q : Int) < (s2 : Int) := by omega
          have hk1 : (p * s2 + q) / s2 = p := by rw [Nat.mul_comm, Nat.mul_add_div (by omega), Nat.div_eq_of_lt hqlt]; rfl
          have hk2 : (p * s2 + q) % s2 = q := by rw [Nat.mul_comm, Nat.mul_add_mod, Nat.mod_eq_of_lt hqlt]
          have hk3 : p * s2 + q < s1 * s2 := by
            have : (p + 1) * s2 ≤ s1 * s2 := Nat.mul_le_mul_right _ (by omega)
            rw [Nat.succ_mul] at this
            omega
          have hwr : w.heap.size + 5 ≤ wr.heap.size := by have := HB.out.size; omega
          have HX : Hid (PQFix (w.heap.size + 5) wr.heap.size (w.heap.size + 1 + 1 + 1) (w.heap.size + 1 + 1 + 1 + 1) V5 V6) := hide ⟨by omega, by omega, by omega, hwr, fun j hj => HPQ.out.o5.lt j hj, fun j hj => HPQ.out.o6.lt j hj, HPQ.out.ne⟩
          have Hk := hide (And.intro hk1 (And.intro hk2 hk3))
          clear hk1 hk2
          go_wp2_with fail
          refine wp_region_inv (PQI (w.heap.size + 5) wr.heap.size (w.heap.size + 1 + 1 + 1) (w.heap.size + 1 + 1 + 1 + 1) V5 V6 (p * s2 + q) (fun i => ((i / s2 : Nat) : Int)) (fun i => ((i % s2 : Nat) : Int)) W3) (by kernel_rfl) (by kernel_rfl) (by kernel_rfl) (fun t => HPQ.out.start HB.out t) ⟨?_, ?_, ?_, ?_, ?_, ?_, ?_, ?_, ?_, ?_, trivial⟩ ?_
          rotate_right
          · intro d t W hI hall
            have hP := hI.done hall
            have hB := hI.below
            clear hI hall
            simp only [fill, Act.put, List.setIfInBounds_toArray, List.set_cons_zero, List.set_cons_succ]
            have HP := hide hP
            have HB2 := hide hB
            clear hP hB
            go_wp2
            go_roundw
            case rel => exact ⟨q + 1, _, _, by omega, by go_num, HP, HB2⟩
            case measure => simp [intOf]; omega
          all_goals intro d t W hI hd hp K hK
          all_goals simp only [fill, Act.put, List.setIfInBounds_toArray, List.set_cons_zero, List.set_cons_succ] at hK ⊢
          all_goals rw [if_pos (by rfl)]
          · have h8 : d 8 = false := by
              cases h8 : d 8 with
              | false => rfl
              | true => have := hI.h5.sl h8; rw [hd] at this; cases this
            have hc := (hI.h5.c0 h8).cell 0
            simp at hc
            go_simp
            exact hK _ _ hI.l0
          · go_simp
            exact hK _ _ (hI.m1 (by show _ = Value.int .i64 (((p * s2 + q) / s2 : Nat) : Int); rw [Hk.out.1]))
          · have e0 := hI.h5.m (hp 1 (by decide))
            have hS := hI.s2 HX.out
            rw [Hk.out.1] at e0 hS
            simp only [e0] at hK ⊢
            go_simp
            exact hK _ _ hS
          · have e0 := hI.h5.l (hp 0 (by decide))
            obtain ⟨b, e2, _, hbb⟩ := hI.h5.b (hp 2 (by decide))
            simp only [e0, e2] at hK ⊢
            refine wp_append_lies W _ _ _ (by rfl) (w.heap.size + 5) 3 i1 _ 1 8 Try.underlying32 hi1 hy0 hy1 hy2 rfl (by decide) V5 (p * s2 + q) _ (by rfl) (hI.h5.own hd) ⟨b, 0, none⟩ 1 1 [.int .i64 ((fun i => ((i / s2 : Nat) : Int)) (p * s2 + q))] (by rfl) (by rfl) (World.news_of_block hbb) (by simp [Value.oneCell']) (by decide) (by unfold maxLen; omega) (by omega) (by have := hI.size; omega) _ rfl ?_
            intro g c w1 hown hgrow hat _
            exact hK _ w1 (hI.app3 HX.out hd hgrow hown hat)
          · have h8 : d 9 = false := by
              cases h8 : d 9 with
              | false => rfl
              | true => have := hI.h6.sl h8; rw [hd] at this; cases this
            have hc := (hI.h6.c0 h8).cell 0
            simp at hc
            go_simp
            exact hK _ _ hI.l4
          · go_simp
            exact hK _ _ (hI.m5 (by show _ = Value.int .i64 (((p * s2 + q) % s2 : Nat) : Int); rw [Hk.out.2.1]))
          · have e0 := hI.h6.m (hp 5 (by decide))
            have hS := hI.s6 HX.out
            rw [Hk.out.2.1] at e0 hS
            simp only [e0] at hK ⊢
            go_simp
            exact hK _ _ hS
          · have e0 := hI.h6.l (hp 4 (by decide))
            obtain ⟨b, e2, _, hbb⟩ := hI.h6.b (hp 6 (by decide))
            simp only [e0, e2] at hK ⊢
            refine wp_append_lies W _ _ _ (by rfl) (w.heap.size + 5) 3 i1 _ 1 8 Try.underlying32 hi1 hy0 hy1 hy2 rfl (by decide) V6 (p * s2 + q) _ (by rfl) (hI.h6.own hd) ⟨b, 0, none⟩ 1 1 [.int .i64 ((fun i => ((i % s2 : Nat) : Int)) (p * s2 + q))] (by rfl) (by rfl) (World.news_of_block hbb) (by simp [Value.oneCell']) (by decide) (by unfold maxLen; omega) (by omega) (by have := hI.size; omega) _ rfl ?_
            intro g c w1 hown hgrow hat _
            exact hK _ w1 (hI.app7 HX.out hd hgrow hown hat)
          · have hc := (hI.h5.c0 hd).cell 0
            have hf := (hI.h5.c0 hd).frozen
            simp at hc
            obtain ⟨g, c, e3, _, _⟩ := hI.h5.a (hp 3 (by decide))
            have hS := hI.st8 HX.out hd (hp 0 (by decide)) (hp 3 (by decide)) undef
            simp only [e3] at hK hS ⊢
            go_simp
            exact hK undef _ hS
          · have hc := (hI.h6.c0 hd).cell 0
            have hf := (hI.h6.c0 hd).frozen
            simp at hc
            obtain ⟨g, c, e3, _, _⟩ := hI.h6.a (hp 7 (by decide))
            have hS := hI.st9 HX.out hd (hp 4 (by decide)) (hp 7 (by decide)) undef
            simp only [e3] at hK hS ⊢
            go_simp
            exact hK undef _ hS
        · have hqe : q = s2 := by omega
          have HP2 : Hid (PQ (w.heap.size + 5) (w.heap.size + 1 + 1 + 1) (w.heap.size + 1 + 1 + 1 + 1) V5 V6 ((p + 1) * s2) (fun i => ((i / s2 : Nat) : Int)) (fun i => ((i % s2 : Nat) : Int)) wr) := hide (by rw [Nat.succ_mul]; rw [hqe] at HPQ; exact HPQ.out)
          have hqi : (s2 : Int) ≤ (q : Int) := by omega
          clear hqe
          go_wp2
          go_roundw
          case rel =>
            first
            | exact ⟨p + 1, V5, V6, by omega, by go_num, HP2, HB⟩
            | ((repeat apply Exists.intro); exact ⟨⟨p + 1, V5, V6, by omega, by go_num, HP2, HB⟩, rfl⟩)
          case measure => simp [intOf]; omega
    · have hpe : p = s1 := by omega
      subst hpe
      have hpi : (p : Int) ≤ (p : Int) := Int.le_refl _
      obtain ⟨c5, c6, o5, o6, ne56⟩ := HPQ.out
      have hinv4 : 4 ≤ p * s2 := by
        have := Nat.mul_le_mul (show 2 ≤ p by have := Hs1.out; omega) (show 2 ≤ s2 by have := Hs2.out; omega)
        omega
      obtain ⟨gp, cp, rfl, gp0, gp1⟩ := o5.form (by omega)
      obtain ⟨gq, cq, rfl, gq0, gq1⟩ := o6.form (by omega)
      clear HPQ y0
      have z5 := c5.cell 0
      simp at z5
      have hinvi : ((p * s2 : Nat) : Int) ≤ 23 := by omega
      generalize hinv : p * s2 = inv at *
      go_wp2_with fail
      have b9 := (Blk.new wr #[.int .i64 (inv : Int)] 3).alloc (.cells #[.int .i64 ((inv : Int) + 1), .slice none 0 0, .slice none 0 0] 24)
      have b11 : Blk ((wr.alloc (.cells #[.int .i64 (inv : Int)] 3)).alloc (.cells #[.int .i64 ((inv : Int) + 1), .slice none 0 0, .slice none 0 0] 24)) (wr.heap.size + 1) #[.int .i64 ((inv : Int) + 1), .slice none 0 0, .slice none 0 0] 24 := Blk.new' (by simp)
      have hv : Below wr.heap.size wr ((wr.alloc (.cells #[.int .i64 (inv : Int)] 3)).alloc (.cells #[.int .i64 ((inv : Int) + 1), .slice none 0 0, .slice none 0 0] 24)) := ((Below.refl _ wr).alloc (Nat.le_refl _) _).alloc (by simp) _
      have hvs : (((wr.alloc (.cells #[.int .i64 (inv : Int)] 3)).alloc (.cells #[.int .i64 ((inv : Int) + 1), .slice none 0 0, .slice none 0 0] 24)) : World).heap.size = wr.heap.size + 2 := by simp
      generalize ((wr.alloc (.cells #[.int .i64 (inv : Int)] 3)).alloc (.cells #[.int .i64 ((inv : Int) + 1), .slice none 0 0, .slice none 0 0] 24)) = V at *
      have hwr : w.heap.size + 5 ≤ wr.heap.size := by have := HB.out.size; omega
      obtain ⟨w9, rfl⟩ : ∃ w9, w9 = wr := ⟨wr, rfl⟩
      have HS : Hid (∀ W', Below (w9.heap.size + 1) V W' → AtSees p s2 w9.heap.size (w.heap.size + 1 + 1 + 1) (w.heap.size + 1 + 1 + 1 + 1) gp gq cp cq W' ∧ mx.In w.heap.size W' ∧ my.In w.heap.size W' ∧ Blk W' w.heap.size #[.int .i64 x.size, .slice mx.B.ga x.size mx.B.cap, .slice mx.E.ga x.el mx.E.cap] 24 ∧ Blk W' (w.heap.size + 1) #[.int .i64 y.size, .slice my.B.ga y.size my.B.cap, .slice my.E.ga x.el my.E.cap] 24) := hide (fun W' hb => by
        have hb1 : Below w9.heap.size w9 W' := hv.trans (hb.mono (by omega))
        have hbw := hb0.trans ((HB.out.mono (show w.heap.size ≤ w.heap.size + 1 + 1 + 1 by omega)).trans (hb1.mono (by omega)))
        refine ⟨⟨?_, ?_, ?_, fun i hi => ?_, fun i hi => ?_⟩, ix.below hbw (Nat.le_refl _), iy.below hbw (Nat.le_refl _), b0'.below hb1 b0'.lt, b1'.below hb1 b1'.lt⟩
        · rw [hinv]; exact (b9.below hb (by omega)).cell 0
        · rw [hinv]; exact (c5.below hb1 c5.lt).cell 0
        · rw [hinv]; exact (c6.below hb1 c6.lt).cell 0
        · rw [hinv] at hi
          rw [hb1.cell (p := ⟨gp, i, none⟩) gp1, o5.cellAt i (by omega), intsL_get hi]
        · rw [hinv] at hi
          rw [hb1.cell (p := ⟨gq, i, none⟩) gq1, o6.cellAt i (by omega), intsL_get hi])
      have Hinv := hide hinv
      have hp2 := hide (show 0 < s2 by have := Hs2.out; omega)
      clear hinv c5 c6 o5 o6 ne56 z5 x0 b0' b1' b3 b4 hp hlt hpi hsz
      go_loopw [12] (fun i wx => ∃ (k : Nat) (VB : Value), k ≤ inv + 1 ∧ i = .int .i64 k ∧ Hid (Blk wx (w9.heap.size + 1) #[.int .i64 ((inv : Int) + 1), VB, .slice none 0 0] 24) ∧ Hid (OwnTab (w9.heap.size + 2) wx.heap.size VB k (inv + 1) (fun a b => ((pairBest x y a b : Nat) : Int)) wx) ∧ Hid (Below (w9.heap.size + 1) V wx)) (fun i _ => inv + 1 - (intOf i).toNat)
      case atStart => exact ⟨0, _, Nat.zero_le _, rfl, hide b11, hide (OwnTab.nil _ _ _ _ _), hide (Below.refl _ _)⟩
      case round =>
        obtain ⟨i, VB, hi, rfl, H11, HT, HBV⟩ := hrel
        obtain ⟨wx, rfl⟩ : ∃ wx, wx = wr := ⟨wr, rfl⟩
        obtain ⟨HA, hmx, hmy, bx', by'⟩ := HS.out wx HBV.out
        have q9 := HA.last
        have hiv := Hinv.out
        rw [hiv] at q9
        by_cases hlt : i < inv + 1
        · have hii : (i : Int) ≤ (inv : Int) := by omega
          clear hiv
          go_wp2_with fail
          go_loopw [13, 14] (fun v j wy => ∃ k : Nat, k ≤ inv + 1 ∧ j = .int .i64 k ∧ Hid (wy.ownsRow wx.heap.size 3 1 v k (intsL (fun c => ((pairBest x y i c : Nat) : Int)) k)) ∧ Hid (Below wx.heap.size wx wy)) (fun _ j _ => inv + 1 - (intOf j).toNat)
          case atStart => exact ⟨0, Nat.zero_le _, rfl, hide (World.ownsRow_nil _ _ _ _), hide (Below.refl _ _)⟩
          case round =>
            obtain ⟨k, hk, rfl, HO, HB4⟩ := hrel
            have hwx9 : w9.heap.size + 1 ≤ wx.heap.size := by have := HBV.out.size; omega
            obtain ⟨HA2, hmx2, hmy2, bx2, by2⟩ := HS.out wr (HBV.out.trans (HB4.out.mono hwx9))
            clear HA hmx hmy bx' by' q9
            have q9 := HA2.last
            have hiv := Hinv.out
            rw [hiv] at q9
            have hpb := pairBest_eq Hs1.out Hs2.out i k
            rw [hiv] at hpb
            by_cases hklt : k < inv + 1
            · have hki : (k : Int) ≤ (inv : Int) := by omega
              by_cases c1 : i = inv
              · rw [if_pos c1] at hpb
                have Hval : Hid (((pairBest x y i k : Nat) : Int) = (k : Int)) := hide (by rw [hpb])
                have f1 : ((i : Int) == (inv : Int)) = true := by simp [c1]
                clear hpb c1 hiv HA2 hmx2 hmy2 bx2 by2
                go_wp2_with (at_builtin; refine wpList_append_lies _ rfl _ _ _ rfl wx.heap.size 3 i1 _ 1 8 Try.underlying32 hi1 hy0 hy1 hy2 rfl (by decide) _ k _ rfl (HO.out.alloc _) ⟨wr.heap.size, 0, none⟩ 1 1 [.int .i64 (k : Int)] rfl rfl ?c1 ?c2 (by decide) ?c3 ?c4 ?c5 _ rfl ?_)
                case c1 => exact World.news_of_block (Blk.new' (by simp))
                case c2 => simp [Value.oneCell']
                case c3 => unfold maxLen; omega
                case c4 => omega
                case c5 => have := HB4.out.size; simp; omega
                intro g' cap' w2 hown2 hgrow hat2 hlt2
                have HO2 := hide (show w2.ownsRow wx.heap.size 3 1 _ (k + 1) (intsL (fun c => ((pairBest x y i c : Nat) : Int)) (k + 1)) by rw [intsL_succ, Hval.out]; exact hown2)
                have HB2 := hide ((HB4.out.alloc (by have := HB4.out.size; omega) _).trans (grown_below hgrow (fun g hg => (HO.out.lt g hg).1) (by have := HB4.out.size; simp; omega)))
                clear hown2 hgrow hat2 hlt2
                go_wp2
                go_roundw
                case rel =>
                  first
                  | exact ⟨k + 1, by omega, by go_num, HO2, HB2⟩
                  | ((repeat apply Exists.intro); exact ⟨⟨k + 1, by omega, by go_num, HO2, HB2⟩, rfl⟩)
                case measure => simp [intOf]; omega
              · rw [if_neg c1] at hpb
                have f1 : ((i : Int) == (inv : Int)) = false := by simp; omega
                by_cases c2 : k = inv
                · rw [if_pos c2] at hpb
                  have Hval : Hid (((pairBest x y i k : Nat) : Int) = (i : Int)) := hide (by rw [hpb])
                  have f2 : ((k : Int) == (inv : Int)) = true := by simp [c2]
                  clear hpb c1 c2 hiv HA2 hmx2 hmy2 bx2 by2
                  go_wp2_with (at_builtin; refine wpList_append_lies _ rfl _ _ _ rfl wx.heap.size 3 i1 _ 1 8 Try.underlying32 hi1 hy0 hy1 hy2 rfl (by decide) _ k _ rfl (HO.out.alloc _) ⟨wr.heap.size, 0, none⟩ 1 1 [.int .i64 (i : Int)] rfl rfl ?c1 ?c2 (by decide) ?c3 ?c4 ?c5 _ rfl ?_)
                  case c1 => exact World.news_of_block (Blk.new' (by simp))
                  case c2 => simp [Value.oneCell']
                  case c3 => unfold maxLen; omega
                  case c4 => omega
                  case c5 => have := HB4.out.size; simp; omega
                  intro g' cap' w2 hown2 hgrow hat2 hlt2
                  have HO2 := hide (show w2.ownsRow wx.heap.size 3 1 _ (k + 1) (intsL (fun c => ((pairBest x y i c : Nat) : Int)) (k + 1)) by rw [intsL_succ, Hval.out]; exact hown2)
                  have HB2 := hide ((HB4.out.alloc (by have := HB4.out.size; omega) _).trans (grown_below hgrow (fun g hg => (HO.out.lt g hg).1) (by have := HB4.out.size; simp; omega)))
                  clear hown2 hgrow hat2 hlt2
                  go_wp2
                  go_roundw
                  case rel =>
                    first
                    | exact ⟨k + 1, by omega, by go_num, HO2, HB2⟩
                    | ((repeat apply Exists.intro); exact ⟨⟨k + 1, by omega, by go_num, HO2, HB2⟩, rfl⟩)
                  case measure => simp [intOf]; omega
                · rw [if_neg c2] at hpb
                  have f2 : ((k : Int) == (inv : Int)) = false := by simp; omega
                  have hp0 := hp2.out
                  have hi9 : i < p * s2 := by omega
                  have hk9 : k < p * s2 := by omega
                  have ql : i / s2 < p := by rw [Nat.div_lt_iff_lt_mul hp0]; exact hi9
                  have ql' : k / s2 < p := by rw [Nat.div_lt_iff_lt_mul hp0]; exact hk9
                  have rl : i % s2 < s2 := Nat.mod_lt _ hp0
                  have rl' : k % s2 < s2 := Nat.mod_lt _ hp0
                  have hxs := Hs1.out
                  have hys := Hs2.out
                  have zp := HA2.ps
                  have zq := HA2.qs
                  rw [hiv] at zp zq
                  have pci := HA2.pc i hi9
                  have pck := HA2.pc k hk9
                  have qci := HA2.qc i hi9
                  have qck := HA2.qc k hk9
                  obtain ⟨yg, yr, yc⟩ := best_row ly hmy2 (e := i % s2) (by omega)
                  have yc' := yc (k % s2) (by omega)
                  have yv : y.best (i % s2) (k % s2) < s2 := hy.blt rl rl'
                  obtain ⟨xg, xr, xc⟩ := best_row lx hmx2 (e := i / s2) (by omega)
                  have xc' := xc (k / s2) (by omega)
                  have zy := by2.cell 1
                  have zx := bx2.cell 1
                  simp at zy zx
                  rw [yg] at zy
                  rw [xg] at zx
                  have HAT := hide (fun n => at_any p s2 w9.heap.size (w.heap.size + 1 + 1 + 1) (w.heap.size + 1 + 1 + 1 + 1) gp gq cp cq (i / s2) (y.best (i % s2) (k % s2)) (wr.drewN n) (HA2.drewN n) hp0 (by omega))
                  have hpa : pairAt p s2 (i / s2) (y.best (i % s2) (k % s2)) = i / s2 * s2 + y.best (i % s2) (k % s2) := by unfold pairAt; rw [if_pos ⟨ql, yv⟩]
                  have av24 : pairAt p s2 (i / s2) (y.best (i % s2) (k % s2)) ≤ 24 := by
                    rw [hpa]
                    have : (i / s2 + 1) * s2 ≤ p * s2 := Nat.mul_le_mul_right _ (by omega)
                    rw [Nat.succ_mul] at this
                    omega
                  rw [← hpa] at hpb
                  have j0 : (i : Int) < (inv : Int) := by omega
                  have j1 : (k : Int) < (inv : Int) := by omega
                  have j2 : ((i % s2 : Nat) : Int) < (y.size : Int) := by omega
                  have j3 : ((k % s2 : Nat) : Int) < (y.size : Int) := by omega
                  have j4 : ((i / s2 : Nat) : Int) < (x.size : Int) := by omega
                  have j5 : ((k / s2 : Nat) : Int) < (x.size : Int) := by omega
                  clear yg xg yc xc hxs hys HA2 hmx2 hmy2 bx2 by2 hpa hi9 hk9 hiv hp0
                  generalize pairAt p s2 (i / s2) (y.best (i % s2) (k % s2)) = av at *
                  generalize y.best (i % s2) (k % s2) = yb at *
                  generalize x.best (i / s2) (k / s2) = xb at *
                  generalize i / s2 = qi at *
                  generalize k / s2 = qk at *
                  generalize i % s2 = ri at *
                  generalize k % s2 = rk at *
                  by_cases c3 : qi = qk
                  · rw [if_pos c3] at hpb
                    have f3 : ((qi : Int) == (qk : Int)) = true := by simp [c3]
                    have Hval : Hid (((pairBest x y i k : Nat) : Int) = (av : Int)) := hide (by rw [hpb])
                    clear hpb c1 c2 c3
                    go_wp2_with fail
                    go_quiet (fail)
                    go_wp2_with fail
                    go_quiet ((go_at_call 137; exact (HAT.out _).mono (fun _ _ ⟨he, hq⟩ => ⟨he, _, hq⟩)))
                    go_wp2_with (at_builtin; refine wpList_append_lies _ rfl _ _ _ rfl wx.heap.size 3 i1 _ 1 8 Try.underlying32 hi1 hy0 hy1 hy2 rfl (by decide) _ k _ rfl (owns_drewN (HO.out.alloc _) _) ⟨wr.heap.size, 0, none⟩ 1 1 [.int .i64 (av : Int)] rfl rfl ?c1 ?c2 (by decide) ?c3 ?c4 ?c5 _ rfl ?_)
                    case c1 => exact World.news_of_block (Blk.new' (by simp))
                    case c2 => simp [Value.oneCell']
                    case c3 => unfold maxLen; omega
                    case c4 => omega
                    case c5 => have := HB4.out.size; simp; omega
                    intro g' cap' w2 hown2 hgrow hat2 hlt2
                    have HO2 := hide (show w2.ownsRow wx.heap.size 3 1 _ (k + 1) (intsL (fun c => ((pairBest x y i c : Nat) : Int)) (k + 1)) by rw [intsL_succ, Hval.out]; exact hown2)
                    have HB2 := hide ((below_drewN (HB4.out.alloc (by have := HB4.out.size; omega) _) _).trans (grown_below hgrow (fun g hg => (HO.out.lt g hg).1) (by have := HB4.out.size; simp; omega)))
                    clear hown2 hgrow hat2 hlt2
                    go_wp2
                    go_roundw
                    case rel =>
                      first
                      | exact ⟨k + 1, by omega, by go_num, HO2, HB2⟩
                      | ((repeat apply Exists.intro); exact ⟨⟨k + 1, by omega, by go_num, HO2, HB2⟩, rfl⟩)
                    case measure => simp [intOf]; omega
                  · rw [if_neg c3] at hpb
                    have f3 : ((qi : Int) == (qk : Int)) = false := by simp; omega
                    by_cases c4 : xb = qi
                    · rw [if_pos c4] at hpb
                      have f4 : ((xb : Int) != (qi : Int)) = false := by simp [c4]
                      have Hval : Hid (((pairBest x y i k : Nat) : Int) = (i : Int)) := hide (by rw [hpb])
                      clear hpb c1 c2 c3 c4
                      go_wp2_with fail
                      go_quiet (fail)
                      go_wp2_with fail
                      go_quiet (fail)
                      go_wp2_with (at_builtin; refine wpList_append_lies _ rfl _ _ _ rfl wx.heap.size 3 i1 _ 1 8 Try.underlying32 hi1 hy0 hy1 hy2 rfl (by decide) _ k _ rfl (owns_drewN (HO.out.alloc _) _) ⟨wr.heap.size, 0, none⟩ 1 1 [.int .i64 (i : Int)] rfl rfl ?c1 ?c2 (by decide) ?c3 ?c4 ?c5 _ rfl ?_)
                      case c1 => exact World.news_of_block (Blk.new' (by simp))
                      case c2 => simp [Value.oneCell']
                      case c3 => unfold maxLen; omega
                      case c4 => omega
                      case c5 => have := HB4.out.size; simp; omega
                      intro g' cap' w2 hown2 hgrow hat2 hlt2
                      have HO2 := hide (show w2.ownsRow wx.heap.size 3 1 _ (k + 1) (intsL (fun c => ((pairBest x y i c : Nat) : Int)) (k + 1)) by rw [intsL_succ, Hval.out]; exact hown2)
                      have HB2 := hide ((below_drewN (HB4.out.alloc (by have := HB4.out.size; omega) _) _).trans (grown_below hgrow (fun g hg => (HO.out.lt g hg).1) (by have := HB4.out.size; simp; omega)))
                      clear hown2 hgrow hat2 hlt2
                      go_wp2
                      go_roundw
                      case rel =>
                        first
                        | exact ⟨k + 1, by omega, by go_num, HO2, HB2⟩
                        | ((repeat apply Exists.intro); exact ⟨⟨k + 1, by omega, by go_num, HO2, HB2⟩, rfl⟩)
                      case measure => simp [intOf]; omega
                    · rw [if_neg c4] at hpb
                      have f4 : ((xb : Int) != (qi : Int)) = true := by simp; omega
                      have Hval : Hid (((pairBest x y i k : Nat) : Int) = (k : Int)) := hide (by rw [hpb])
                      clear hpb c1 c2 c3 c4
                      go_wp2_with fail
                      go_quiet (fail)
                      go_wp2_with fail
                      go_quiet (fail)
                      go_wp2_with (at_builtin; refine wpList_append_lies _ rfl _ _ _ rfl wx.heap.size 3 i1 _ 1 8 Try.underlying32 hi1 hy0 hy1 hy2 rfl (by decide) _ k _ rfl (owns_drewN (HO.out.alloc _) _) ⟨wr.heap.size, 0, none⟩ 1 1 [.int .i64 (k : Int)] rfl rfl ?c1 ?c2 (by decide) ?c3 ?c4 ?c5 _ rfl ?_)
                      case c1 => exact World.news_of_block (Blk.new' (by simp))
                      case c2 => simp [Value.oneCell']
                      case c3 => unfold maxLen; omega
                      case c4 => omega
                      case c5 => have := HB4.out.size; simp; omega
                      intro g' cap' w2 hown2 hgrow hat2 hlt2
                      have HO2 := hide (show w2.ownsRow wx.heap.size 3 1 _ (k + 1) (intsL (fun c => ((pairBest x y i c : Nat) : Int)) (k + 1)) by rw [intsL_succ, Hval.out]; exact hown2)
                      have HB2 := hide ((below_drewN (HB4.out.alloc (by have := HB4.out.size; omega) _) _).trans (grown_below hgrow (fun g hg => (HO.out.lt g hg).1) (by have := HB4.out.size; simp; omega)))
                      clear hown2 hgrow hat2 hlt2
                      go_wp2
                      go_roundw
                      case rel =>
                        first
                        | exact ⟨k + 1, by omega, by go_num, HO2, HB2⟩
                        | ((repeat apply Exists.intro); exact ⟨⟨k + 1, by omega, by go_num, HO2, HB2⟩, rfl⟩)
                      case measure => simp [intOf]; omega
            · have hke : k = inv + 1 := by omega
              have hki : (inv : Int) < (k : Int) := by omega
              subst hke
              obtain ⟨gn, cn, rfl, gn0, gn1⟩ := HO.out.form (by omega)
              have h11 := H11.out.below HB4.out H11.out.lt
              obtain ⟨g, c, t1, t2, t3, t4⟩ := HT.out.below HB4.out
              have n1 := h11.cell 0
              have n2 := h11.cell 1
              have n3 := h11.cell 2
              simp at n1 n2 n3
              have n2' : ∀ o, (wr.alloc o).cell? ⟨w9.heap.size + 1, 1, none⟩ = some VB := fun o => (h11.alloc o).cell 1
              have hvb9 : ∀ j, VB.ownBlock = some j → w9.heap.size + 2 ≤ j := fun j hj => (t1.lt j hj).1
              have Ht1 := hide t1
              clear t1 hpb hiv HA2 hmx2 hmy2 bx2 by2
              go_wp2_with (at_builtin; refine wpList_append_lies _ rfl _ _ _ rfl (w9.heap.size + 2) 32 i2 _ 1 24 Try.underlying22 hi2 hx0 hx1 hx2 rfl (by decide) _ i _ rfl (Ht1.out.alloc _) ⟨wr.heap.size, 0, none⟩ 1 1 [.slice (some ⟨gn, 0, none⟩) (inv + 1) cn] rfl rfl ?c1 ?c2 (by decide) ?c3 ?c4 ?c5 _ rfl ?_)
              all_goals try (case c1 => exact World.news_of_block (Blk.new' (by simp)))
              case c2 => simp [Value.oneCell']
              case c3 => unfold maxLen; omega
              case c4 => omega
              case c5 => have := HB4.out.size; simp; omega
              intro g' cap' w2 hown2 hgrow hat2 hlt2
              have HTn := hide (OwnTab.push (Ht1.out.alloc (.cells #[.slice (some ⟨gn, 0, none⟩) (inv + 1) cn] 32)) t2 (fun r hr => ⟨(t3 r hr).1.alloc _, (t3 r hr).2⟩) t4 (by have := HBV.out.size; omega) (HO.out.alloc _) hown2 hgrow (by simpa using hat2))
              have h112 := blk_grownP (h11.alloc (.cells #[.slice (some ⟨gn, 0, none⟩) (inv + 1) cn] 32)) hgrow (fun e => by have := hvb9 _ e; omega)
              have HB2 := hide ((HBV.out.trans (HB4.out.mono hwx9)).alloc (by have := HB4.out.size; omega) (.cells #[.slice (some ⟨gn, 0, none⟩) (inv + 1) cn] 32) |>.trans (grown_below hgrow (fun g hg => by have := hvb9 g hg; omega) (by have := HB4.out.size; simp; omega)))
              have s2' := hgrow.size
              have m1 := h112.cell 1
              have mf := h112.frozen
              simp at m1
              have H112 := hide h112
              clear hown2 hgrow hat2 hlt2 Ht1 t2 t3 t4 h11 h112 n1 n2 n3 n2'
              go_wp2
              have HBlk := hide (H112.out.set 1 (.slice (some ⟨g', 0, none⟩) (i + 1) cap'))
              simp at HBlk
              have hgs : w2.grownBy (w2.setCell ⟨w9.heap.size + 1, 1, none⟩ (.slice (some ⟨g', 0, none⟩) (i + 1) cap')) (some (w9.heap.size + 1)) := ⟨rfl, rfl, rfl, by simp, fun j _ hne => by
                show (w2.heap.modify (w9.heap.size + 1) _)[j]? = _
                rw [Array.getElem?_modify, if_neg (fun e => hne (by rw [e]))]⟩
              have HT2 := hide ((HTn.out.kept hgs (fun k hk => Or.inl (by have e : w9.heap.size + 1 = k := (by simpa using hk); omega))).mono (Nat.le_refl _) (Nat.le_of_eq (show w2.heap.size = (w2.setCell ⟨w9.heap.size + 1, 1, none⟩ (.slice (some ⟨g', 0, none⟩) (i + 1) cap')).heap.size by simp)))
              have HB3 := hide (HB2.out.setCell (p := ⟨w9.heap.size + 1, 1, none⟩) (Nat.le_refl _) (.slice (some ⟨g', 0, none⟩) (i + 1) cap'))
              go_roundw
              case rel =>
                first
                | exact ⟨i + 1, _, by omega, by go_num, HBlk, HT2, HB3⟩
                | ((repeat apply Exists.intro); exact ⟨⟨i + 1, _, by omega, by go_num, HBlk, HT2, HB3⟩, rfl⟩)
              case measure => simp [intOf]; omega
        · have hie : i = inv + 1 := by omega
          have hii : (inv : Int) < (i : Int) := by omega
          subst hie
          have HT0 := HT
          have mid := hide (Nat.le_refl wx.heap.size)
          have z2 := bx'.cell 2
          simp at z2
          clear hiv HA hmx hmy by'
          go_wp2_with fail
          go_loopw [16] (fun i wy => ∃ (e : Nat) (VE : Value), e ≤ x.el ∧ i = .int .i64 e ∧ Hid (Blk wy (w9.heap.size + 1) #[.int .i64 ((inv : Int) + 1), VB, VE] 24) ∧ Hid (OwnTab (w9.heap.size + 2) wx.heap.size VB (inv + 1) (inv + 1) (fun a b => ((pairBest x y a b : Nat) : Int)) wy) ∧ Hid (OwnTab wx.heap.size wy.heap.size VE e (inv + 1) (fun a b => ((pairEdge x y a b : Nat) : Int)) wy) ∧ Hid (Below (w9.heap.size + 1) V wy) ∧ Hid (wx.heap.size ≤ wy.heap.size)) (fun i _ => x.el - (intOf i).toNat)
          case atStart => exact ⟨0, _, Nat.zero_le _, rfl, H11, HT, hide (OwnTab.nil _ _ _ _ _), HBV, hide (Nat.le_refl _)⟩
          case round =>
            obtain ⟨e, VE, he, rfl, H11', HTB, HTE, HBV', HSZ⟩ := hrel
            obtain ⟨wy, rfl⟩ : ∃ wy, wy = wr := ⟨wr, rfl⟩
            obtain ⟨HA3, hmx3, hmy3, bx3, by3⟩ := HS.out wy HBV'.out
            have q2 := bx3.cell 2
            have q9' := HA3.last
            rw [Hinv.out] at q9'
            simp at q2
            have hwy9 : w9.heap.size + 1 ≤ wy.heap.size := by have := HBV'.out.size; omega
            by_cases helt : e < x.el
            · have hei : (e : Int) < (x.el : Int) := by omega
              clear q9 z2 bx'
              go_wp2_with fail
              go_loopw [17, 18] (fun v j wz => ∃ k : Nat, k ≤ inv ∧ j = .int .i64 k ∧ Hid (wz.ownsRow wy.heap.size 3 1 v k (intsL (fun c => ((pairEdge x y e c : Nat) : Int)) k)) ∧ Hid (Below wy.heap.size wy wz)) (fun _ j _ => inv - (intOf j).toNat)
              case atStart => exact ⟨0, Nat.zero_le _, rfl, hide (World.ownsRow_nil _ _ _ _), hide (Below.refl _ _)⟩
              case round =>
                clear HA3 hmx3 hmy3 bx3 by3 q2 q9'
                obtain ⟨k, hk, rfl, HO, HB6⟩ := hrel
                have hBr := HBV'.out.trans (HB6.out.mono hwy9)
                obtain ⟨HA4, hmx4, hmy4, bx4, by4⟩ := HS.out wr hBr
                have q9' := HA4.last
                have hiv := Hinv.out
                rw [hiv] at q9'
                by_cases hklt : k < inv
                · have hki : (k : Int) < (inv : Int) := by omega
                  have hpe := pairEdge_eq Hs1.out Hs2.out e k
                  rw [hiv, if_neg (by omega)] at hpe
                  have hp0 := hp2.out
                  have hk9 : k < p * s2 := by omega
                  have ql : k / s2 < p := by rw [Nat.div_lt_iff_lt_mul hp0]; exact hk9
                  have rl : k % s2 < s2 := Nat.mod_lt _ hp0
                  have hxs := Hs1.out
                  have hys := Hs2.out
                  have hele := HEL.out
                  have xv := hx.elt e (k / s2) helt (by omega)
                  have yv := hy.elt e (k % s2) (by omega) (by omega)
                  have HK : Hid (∀ w', Below (w9.heap.size + 1) V w' → w'.cell? ⟨w.heap.size, 2, none⟩ = some (.slice (some ⟨mx.E.gb, mx.E.go, none⟩) x.el mx.E.cap) ∧ w'.cell? ⟨mx.E.gb, mx.E.go + e, none⟩ = some (.slice (some ⟨mx.E.RB e, mx.E.RO e, none⟩) x.size (mx.E.C e)) ∧ w'.cell? ⟨mx.E.RB e, mx.E.RO e + k / s2, none⟩ = some (.int .i64 ((x.edge e (k / s2) : Nat) : Int)) ∧ w'.cell? ⟨w.heap.size + 1 + 1 + 1, 0, none⟩ = some (.slice (some ⟨gp, 0, none⟩) inv cp) ∧ w'.cell? ⟨gp, k, none⟩ = some (.int .i64 ((k / s2 : Nat) : Int)) ∧ w'.cell? ⟨w.heap.size + 1, 2, none⟩ = some (.slice (some ⟨my.E.gb, my.E.go, none⟩) x.el my.E.cap) ∧ w'.cell? ⟨my.E.gb, my.E.go + e, none⟩ = some (.slice (some ⟨my.E.RB e, my.E.RO e, none⟩) y.size (my.E.C e)) ∧ w'.cell? ⟨my.E.RB e, my.E.RO e + k % s2, none⟩ = some (.int .i64 ((y.edge e (k % s2) : Nat) : Int)) ∧ w'.cell? ⟨w.heap.size + 1 + 1 + 1 + 1, 0, none⟩ = some (.slice (some ⟨gq, 0, none⟩) inv cq) ∧ w'.cell? ⟨gq, k, none⟩ = some (.int .i64 ((k % s2 : Nat) : Int))) := hide (fun w' hb => by
                    obtain ⟨HA5, hmx5, hmy5, bx5, by5⟩ := HS.out w' hb
                    obtain ⟨xg, xr, xc⟩ := edge_row lx hmx5 (e := e) helt (by omega)
                    obtain ⟨yg, yr, yc⟩ := edge_row ly hmy5 (e := e) (by omega) (by omega)
                    refine ⟨?_, xr, xc _ (by omega), ?_, HA5.pc k hk9, ?_, yr, yc _ (by omega), ?_, HA5.qc k hk9⟩
                    · rw [bx5.cell 2, ← xg]; rfl
                    · rw [← hiv]; exact HA5.ps
                    · rw [by5.cell 2, ← yg]; rfl
                    · rw [← hiv]; exact HA5.qs)
                  have HAT := hide (fun n => at_any p s2 w9.heap.size (w.heap.size + 1 + 1 + 1) (w.heap.size + 1 + 1 + 1 + 1) gp gq cp cq (x.edge e (k / s2)) (y.edge e (k % s2)) (wr.drewN n) (HA4.drewN n) hp0 (by omega))
                  have hpa : pairEdge x y e k = pairAt p s2 (x.edge e (k / s2)) (y.edge e (k % s2)) := by
                    rw [hpe]
                    unfold pairAt
                    by_cases hc : x.edge e (k / s2) = p ∨ y.edge e (k % s2) = s2
                    · rw [if_pos hc, if_neg (by omega), hiv]
                    · rw [if_neg hc, if_pos (by omega)]
                  have av24 : pairAt p s2 (x.edge e (k / s2)) (y.edge e (k % s2)) ≤ 24 := by
                    unfold pairAt
                    split
                    · rename_i hc
                      have : (x.edge e (k / s2) + 1) * s2 ≤ p * s2 := Nat.mul_le_mul_right _ (by omega)
                      rw [Nat.succ_mul] at this
                      omega
                    · omega
                  have j4 : ((k / s2 : Nat) : Int) < (x.size : Int) := by omega
                  have j5 : ((k % s2 : Nat) : Int) < (y.size : Int) := by omega
                  have hrs : wy.heap.size ≤ wr.heap.size := HB6.out.size
                  have Hval : Hid (((pairEdge x y e k : Nat) : Int) = ((pairAt p s2 (x.edge e (k / s2)) (y.edge e (k % s2)) : Nat) : Int)) := hide (by rw [hpa])
                  clear hpa hpe hxs hys hele HA4 hmx4 hmy4 bx4 by4 hk9 ql rl xv yv hp0 hiv
                  generalize pairAt p s2 (x.edge e (k / s2)) (y.edge e (k % s2)) = av at *
                  generalize x.edge e (k / s2) = xe at *
                  generalize y.edge e (k % s2) = ye at *
                  generalize k / s2 = qk at *
                  generalize k % s2 = rk at *
                  have HW := HK.out wr hBr
                  have OWN : Hid (∀ n o, ((wr.alloc o).drewN n).ownsRow wy.heap.size 3 1 u17 k (intsL (fun c => ((pairEdge x y e c : Nat) : Int)) k)) := hide (fun n o => owns_drewN (HO.out.alloc o) n)
                  have hle1 : w9.heap.size + 1 ≤ wr.heap.size := by omega
                  have hb63 : k + 1 ≤ maxLen := by unfold maxLen; omega
                  have hbby : (k + 1) * 8 ≤ 140737488355328 := by omega
                  have hbas : ∀ n (o : Obj), wy.heap.size ≤ ((wr.alloc o).drewN n).heap.size := fun n o => by simp; omega
                  go_wp2_with fail
                  go_region_held3 (fun w' => w'.cell? ⟨w.heap.size, 2, none⟩ = some (.slice (some ⟨mx.E.gb, mx.E.go, none⟩) x.el mx.E.cap) ∧ w'.cell? ⟨mx.E.gb, mx.E.go + e, none⟩ = some (.slice (some ⟨mx.E.RB e, mx.E.RO e, none⟩) x.size (mx.E.C e)) ∧ w'.cell? ⟨mx.E.RB e, mx.E.RO e + qk, none⟩ = some (.int .i64 ((xe : Nat) : Int)) ∧ w'.cell? ⟨w.heap.size + 1 + 1 + 1, 0, none⟩ = some (.slice (some ⟨gp, 0, none⟩) inv cp) ∧ w'.cell? ⟨gp, k, none⟩ = some (.int .i64 ((qk : Nat) : Int)) ∧ w'.cell? ⟨w.heap.size + 1, 2, none⟩ = some (.slice (some ⟨my.E.gb, my.E.go, none⟩) x.el my.E.cap) ∧ w'.cell? ⟨my.E.gb, my.E.go + e, none⟩ = some (.slice (some ⟨my.E.RB e, my.E.RO e, none⟩) y.size (my.E.C e)) ∧ w'.cell? ⟨my.E.RB e, my.E.RO e + rk, none⟩ = some (.int .i64 ((ye : Nat) : Int)) ∧ w'.cell? ⟨w.heap.size + 1 + 1 + 1 + 1, 0, none⟩ = some (.slice (some ⟨gq, 0, none⟩) inv cq) ∧ w'.cell? ⟨gq, k, none⟩ = some (.int .i64 ((rk : Nat) : Int))) (first | exact HK.out _ (hBr.trans ⟨rfl, rfl, rfl, Nat.le_refl _, fun _ _ => rfl⟩) | exact HK.out _ (below_drewN hBr _) | exact HK.out _ (below_drewN (hBr.alloc hle1 _) _) | exact HK.out _ hB7)
                    (first
                      | (go_at_call 137; refine (HAT.out 1).mono ?_; rintro r w' ⟨rfl, rfl⟩)
                      | (refine step_append_lies _ (by rfl) _ _ _ (by rfl) wy.heap.size 3 i1 _ 1 8 Try.underlying32 hi1 hy0 hy1 hy2 rfl (by decide) u17 k _ (by rfl) (OWN.out _ _) ⟨wr.heap.size, 0, none⟩ 1 1 [.int .i64 (av : Int)] (by rfl) (by rfl) (World.news_of_block (heap_alloc_new wr _)) (by simp [Value.oneCell']) (by decide) hb63 hbby (hbas _ _) _ rfl ?_; intro g' cap' w7 hown7 hgrow7 hat7 hlt7; have hB7 := (below_drewN (hBr.alloc hle1 (.cells #[.int .i64 (av : Int)] 3)) 1).trans (grown_below hgrow7 (fun g hg => by have := (HO.out.lt g hg).1; omega) (by simp; omega))))
                  all_goals
                    have HO7 := hide (show w7.ownsRow wy.heap.size 3 1 (.slice (some ⟨g', 0, none⟩) (k + 1) cap') (k + 1) (intsL (fun c => ((pairEdge x y e c : Nat) : Int)) (k + 1)) by rw [intsL_succ, Hval.out]; exact hown7)
                    have HB7 := hide ((below_drewN (HB6.out.alloc hrs (.cells #[.int .i64 (av : Int)] 3)) 1).trans (grown_below hgrow7 (fun g hg => (HO.out.lt g hg).1) (by simp; omega)))
                    clear hown7 hgrow7 hat7 hlt7 HW hB7 HK HAT OWN
                    go_wp2
                    go_roundw
                    case rel =>
                      first
                      | exact ⟨k + 1, by omega, by go_num, HO7, HB7⟩
                      | ((repeat apply Exists.intro); exact ⟨⟨k + 1, by omega, by go_num, HO7, HB7⟩, rfl⟩)
                    case measure => simp [intOf]; omega
                · have hke : k = inv := by omega
                  subst hke
                  have hki : (k : Int) ≤ (k : Int) := Int.le_refl _
                  have h11 := H11'.out.below HB6.out H11'.out.lt
                  obtain ⟨g, c, t1, t2, t3, t4⟩ := HTE.out.below HB6.out
                  have HTB2 := hide (HTB.out.below HB6.out)
                  have n2 := h11.cell 2
                  simp at n2
                  have n2' : ∀ o, (wr.alloc o).cell? ⟨w9.heap.size + 1, 2, none⟩ = some VE := fun o => (h11.alloc o).cell 2
                  have hve : ∀ j, VE.ownBlock = some j → wx.heap.size ≤ j := fun j hj => (t1.lt j hj).1
                  have hrs : wy.heap.size ≤ wr.heap.size := HB6.out.size
                  have hxy := HSZ.out
                  have hwx2 : w9.heap.size + 2 ≤ wx.heap.size := by have := HBV.out.size; omega
                  have hpe : pairEdge x y e k = k := by
                    rw [pairEdge_eq Hs1.out Hs2.out, hiv, if_pos rfl]
                  have HPE := hide (show ((pairEdge x y e k : Nat) : Int) = (k : Int) by rw [hpe])
                  have OWN : Hid (∀ n o, ((wr.alloc o).drewN n).ownsRow wy.heap.size 3 1 u17 k (intsL (fun c => ((pairEdge x y e c : Nat) : Int)) k)) := hide (fun n o => owns_drewN (HO.out.alloc o) n)
                  have OWE := hide t1
                  have ROWS := hide t3
                  have h11h := hide h11
                  have hle1 : w9.heap.size + 1 ≤ wr.heap.size := by omega
                  have hb63 : k + 1 ≤ maxLen := by unfold maxLen; omega
                  have hbby : (k + 1) * 8 ≤ 140737488355328 := by omega
                  have he63 : e + 1 ≤ maxLen := by unfold maxLen; omega
                  have heby : (e + 1) * 24 ≤ 140737488355328 := by omega
                  have hbas : ∀ n (o : Obj), wy.heap.size ≤ ((wr.alloc o).drewN n).heap.size := fun n o => by simp; omega
                  have hneU : ∀ j, j < wy.heap.size → some j ≠ Value.ownBlock u17 := fun j hj e' => by have := (HO.out.lt j e'.symm).1; omega
                  have hneV : VE.ownBlock = none ∨ VE.ownBlock ≠ Value.ownBlock u17 := by
                    cases hv : VE.ownBlock with
                    | none => exact Or.inl rfl
                    | some j => exact Or.inr (hneU j (t2 j hv))
                  have A7 : Hid (∀ w7 : World, (((wr.alloc (.cells #[.int .i64 (k : Int)] 3)).drewN 1)).grownBy w7 (Value.ownBlock u17) → Below (w9.heap.size + 1) V w7 ∧ wr.heap.size ≤ w7.heap.size ∧ Blk w7 (w9.heap.size + 1) #[.int .i64 ((k : Int) + 1), VB, VE] 24 ∧ w7.ownsRow wx.heap.size 32 1 VE e (rowsL g c (k + 1) e) ∧ (∀ r, r < e → w7.ownsRow wx.heap.size 3 1 (.slice (some ⟨g r, 0, none⟩) (k + 1) (c r)) (k + 1) (intsL (fun b => ((pairEdge x y r b : Nat) : Int)) (k + 1)) ∧ g r < wy.heap.size ∧ VE.ownBlock ≠ some (g r)) ∧ OwnTab (w9.heap.size + 2) wx.heap.size VB (k + 1) (k + 1) (fun a b => ((pairBest x y a b : Nat) : Int)) w7) := hide (fun w7 hg => by
                    have hs := hg.size
                    simp at hs
                    refine ⟨(below_drewN (hBr.alloc hle1 _) 1).trans (grown_below hg (fun j hj => by have := (HO.out.lt j hj).1; omega) (by simp; omega)), by omega, ?_, ?_, ?_, ?_⟩
                    · exact blk_grownP ((h11h.out.alloc _).drewN 1) hg (fun e' => hneU _ (by omega) e'.symm)
                    · exact (owns_drewN (OWE.out.alloc _) 1).kept hg hneV
                    · intro r hr
                      exact ⟨(owns_drewN ((ROWS.out r hr).1.alloc _) 1).kept hg (Or.inr (hneU _ (ROWS.out r hr).2.1)), (ROWS.out r hr).2⟩
                    · exact OwnTab.kept (HTB2.out.kept (w' := (wr.alloc (.cells #[.int .i64 (k : Int)] 3)).drewN 1) (row := none) ⟨rfl, rfl, rfl, by simp, fun j hj _ => heap_alloc_old wr _ j hj⟩ (fun j hj => by cases hj)) hg (fun j hj => Or.inr (by have := (HO.out.lt j hj).1; omega)))
                  have n2d : wr.drew.cell? ⟨w9.heap.size + 1, 2, none⟩ = some VE := n2
                  clear t1 t3 hpe hiv HA4 hmx4 hmy4 bx4 by4 h11
                  go_wp2_with fail
                  go_region_law
                    (first
                      | (refine step_append_lies _ (by rfl) _ _ _ (by rfl) wy.heap.size 3 i1 _ 1 8 Try.underlying32 hi1 hy0 hy1 hy2 rfl (by decide) u17 k _ (by rfl) (OWN.out 1 _) ⟨wr.heap.size, 0, none⟩ 1 1 [.int .i64 (k : Int)] (by rfl) (by rfl) (World.news_of_block (heap_alloc_new wr _)) (by simp [Value.oneCell']) (by decide) hb63 hbby (hbas 1 _) _ rfl ?_; intro gn cn w7 hown7 hgrow7 hat7 hlt7; obtain ⟨hB7, hs7, h117, OWE7, ROWS7, HTB7⟩ := A7.out w7 hgrow7; have n27 := h117.cell 2; have n27' : ∀ o, (w7.alloc o).cell? ⟨w9.heap.size + 1, 2, none⟩ = some VE := (fun o => (h117.alloc o).cell 2); simp at n27; have hbas7 : ∀ (o : Obj), wx.heap.size ≤ (w7.alloc o).heap.size := (fun o => (by simp; omega)))
                      | (refine step_append_lies _ (by rfl) _ _ _ (by rfl) wx.heap.size 32 i2 _ 1 24 Try.underlying22 hi2 hx0 hx1 hx2 rfl (by decide) VE e _ (by rfl) (OWE7.alloc _) ⟨w7.heap.size, 0, none⟩ 1 1 [.slice (some ⟨gn, 0, none⟩) (k + 1) cn] (by rfl) (by rfl) (World.news_of_block (heap_alloc_new w7 _)) (by simp [Value.oneCell']) (by decide) he63 heby (hbas7 _) _ rfl ?_; intro g8 c8 w8 hown8 hgrow8 hat8 hlt8; have h118 := (blk_grownP (h117.alloc (.cells #[.slice (some ⟨gn, 0, none⟩) (k + 1) cn] 32)) hgrow8 (fun e' => (by have := hve _ e'; omega))); have m2 := h118.cell 2; have mf := h118.frozen; simp at m2))
                  all_goals
                    have hrow7 : w7.ownsRow wy.heap.size 3 1 (.slice (some ⟨gn, 0, none⟩) (k + 1) cn) (k + 1) (intsL (fun c => ((pairEdge x y e c : Nat) : Int)) (k + 1)) := by rw [intsL_succ, HPE.out]; exact hown7
                    have HTE8 := OwnTab.push (Z := fun a b => ((pairEdge x y a b : Nat) : Int)) (OWE7.alloc (.cells #[.slice (some ⟨gn, 0, none⟩) (k + 1) cn] 32)) t2 (fun r hr => ⟨(ROWS7 r hr).1.alloc _, (ROWS7 r hr).2⟩) t4 hxy (hrow7.alloc _) hown8 hgrow8 (by simpa using hat8)
                    have hgs : w8.grownBy (w8.setCell ⟨w9.heap.size + 1, 2, none⟩ (.slice (some ⟨g8, 0, none⟩) (e + 1) c8)) (some (w9.heap.size + 1)) := ⟨rfl, rfl, rfl, by simp, fun j _ hne => by
                      show (w8.heap.modify (w9.heap.size + 1) _)[j]? = _
                      rw [Array.getElem?_modify, if_neg (fun e => hne (by rw [e]))]⟩
                    have hs8 := hgrow8.size
                    simp at hs8
                    have HTE9 := hide ((HTE8.kept hgs (fun j hj => Or.inl (by have e' : w9.heap.size + 1 = j := (by simpa using hj); omega))).mono (Nat.le_refl _) (Nat.le_of_eq (show w8.heap.size = (w8.setCell ⟨w9.heap.size + 1, 2, none⟩ (.slice (some ⟨g8, 0, none⟩) (e + 1) c8)).heap.size by simp)))
                    have HTB9 := hide (((HTB7.alloc (.cells #[.slice (some ⟨gn, 0, none⟩) (k + 1) cn] 32)).kept hgrow8 (fun j hj => Or.inr (hve j hj))).kept hgs (fun j hj => Or.inl (by have e' : w9.heap.size + 1 = j := (by simpa using hj); omega)))
                    have HBlk := hide (h118.set 2 (.slice (some ⟨g8, 0, none⟩) (e + 1) c8))
                    simp at HBlk
                    have HBV9 := hide (((hB7.alloc (by omega) (.cells #[.slice (some ⟨gn, 0, none⟩) (k + 1) cn] 32)).trans (grown_below hgrow8 (fun j hj => by have := hve j hj; omega) (by simp; omega))).setCell (p := ⟨w9.heap.size + 1, 2, none⟩) (Nat.le_refl _) (.slice (some ⟨g8, 0, none⟩) (e + 1) c8))
                    have HSZ9 := hide (show wx.heap.size ≤ (w8.setCell ⟨w9.heap.size + 1, 2, none⟩ (.slice (some ⟨g8, 0, none⟩) (e + 1) c8)).heap.size by simp; omega)
                    clear hrow7 HTE8 hgs hown7 hgrow7 hat7 hlt7 hB7 h117 OWE7 ROWS7 HTB7 n27 n27' hbas7 hown8 hgrow8 hat8 hlt8 h118 m2 mf A7 OWN n2 n2' n2d
                    go_wp2
                    go_roundw
                    case rel =>
                      first
                      | exact ⟨e + 1, _, by omega, by go_num, HBlk, HTB9, HTE9, HBV9, HSZ9⟩
                      | ((repeat apply Exists.intro); exact ⟨⟨e + 1, _, by omega, by go_num, HBlk, HTB9, HTE9, HBV9, HSZ9⟩, rfl⟩)
                    case measure => simp [intOf]; omega
            · have hee : e = x.el := by omega
              subst hee
              have hei : (x.el : Int) ≤ (x.el : Int) := Int.le_refl _
              obtain ⟨gaB, capB, rfl⟩ := HTB.out.form
              obtain ⟨gaE, capE, rfl⟩ := HTE.out.form
              have hb9w : Below w9.heap.size w9 wy := hv.trans (HBV'.out.mono (by omega))
              have b2w := (b2.below HB.out (by omega)).below hb9w (by omega)
              have hbw9 := HB.out.trans (hb9w.mono (by omega))
              have n1 := H11'.out.cell 0
              have n2 := H11'.out.cell 1
              have n3 := H11'.out.cell 2
              have d0 := b2w.cell 0
              have d1 := b2w.cell 1
              have d2 := b2w.cell 2
              have df := b2w.frozen
              have b2x := b2w.set3 (.int .i64 ((inv : Int) + 1)) (.slice gaB (inv + 1) capB) (.slice gaE x.el capE)
              have e0 := b2x.cell 0
              have e1 := b2x.cell 1
              have e2 := b2x.cell 2
              unfold Ytjhkadffaephmaa.set3 at e0 e1 e2
              simp at n1 n2 n3 d0 d1 d2 e0 e1 e2
              have hwx2 : w9.heap.size + 2 ≤ wx.heap.size := by have := HBV.out.size; omega
              have HM : Hid (RefMade (pairN x y) w.heap.size (.returned (.agg #[.int .i64 ((inv : Int) + 1), (.slice gaB (inv + 1) capB), (.slice gaE x.el capE)])) (set3 wy (w.heap.size + 1 + 1) (.int .i64 ((inv : Int) + 1)) (.slice gaB (inv + 1) capB) (.slice gaE x.el capE))) := hide (by
                have hps : (pairN x y).size = inv + 1 := by
                  show (x.size - 1) * (y.size - 1) + 1 = _
                  have e1 : x.size - 1 = p := by have := Hs1.out; omega
                  have e2 : y.size - 1 = s2 := by have := Hs2.out; omega
                  rw [e1, e2, Hinv.out]
                have hg1 : wy.grownBy (set3 wy (w.heap.size + 1 + 1) (.int .i64 ((inv : Int) + 1)) (.slice gaB (inv + 1) capB) (.slice gaE x.el capE)) (some (w.heap.size + 1 + 1)) := ⟨rfl, rfl, rfl, by unfold Ytjhkadffaephmaa.set3; simp, fun j _ hne => by
                  have e : ∀ (X : World) (k : Nat) (v : Value), (X.setCell ⟨w.heap.size + 1 + 1, k, none⟩ v).heap[j]? = X.heap[j]? := fun X k v => by
                    show (X.heap.modify (w.heap.size + 1 + 1) _)[j]? = _
                    rw [Array.getElem?_modify, if_neg (fun e => hne (by rw [e]))]
                  unfold Ytjhkadffaephmaa.set3
                  rw [e, e, e]⟩
                have hs3' : (set3 wy (w.heap.size + 1 + 1) (.int .i64 ((inv : Int) + 1)) (.slice gaB (inv + 1) capB) (.slice gaE x.el capE)).heap.size = wy.heap.size := by unfold Ytjhkadffaephmaa.set3; simp
                refine ⟨.slice gaB (inv + 1) capB, .slice gaE x.el capE, by rw [hps]; rfl, wx.heap.size, by omega, by rw [hs3']; exact HSZ.out, ?_, ?_⟩
                · rw [hps]
                  exact (HTB.out.kept hg1 (fun j hj => Or.inl (by have e' : w.heap.size + 1 + 1 = j := (by simpa using hj); omega))).mono (by omega) (Nat.le_refl _)
                · rw [hps]
                  have hs3 : (set3 wy (w.heap.size + 1 + 1) (.int .i64 ((inv : Int) + 1)) (.slice gaB (inv + 1) capB) (.slice gaE x.el capE)).heap.size = wy.heap.size := by unfold Ytjhkadffaephmaa.set3; simp
                  rw [hs3]
                  exact HTE.out.kept hg1 (fun j hj => Or.inl (by have e' : w.heap.size + 1 + 1 = j := (by simpa using hj); omega)))
              have HBe := hide (below3 (hb0.trans (hbw9.mono (by omega))) (show w.heap.size ≤ w.heap.size + 1 + 1 by omega) (.int .i64 ((inv : Int) + 1)) (.slice gaB (inv + 1) capB) (.slice gaE x.el capE))
              have HBV2 := HBV
              clear HA3 hmx3 hmy3 bx3 by3 q9' b2w b2x hb9w hbw9 HTB HTE HT HT0
              go_wp2
              exact bodyPost_ret (v := .agg #[.int .i64 ((inv : Int) + 1), (.slice gaB (inv + 1) capB), (.slice gaE x.el capE)]) (by simp [results, Try.results109, go_sem, e0, e1, e2]) rfl ⟨HM.out, HBe.out⟩

end Go.Proofs.Ytjhkadffaephmaa
