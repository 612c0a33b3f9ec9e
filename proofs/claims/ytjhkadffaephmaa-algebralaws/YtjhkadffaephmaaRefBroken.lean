/-
  signpostref.CheckBroken.
-/
import Derived.Test.YtjhkadffaephmaaHoldsE
import Derived.Test.YtjhkadffaephmaaRefHolds
namespace Go.Proofs.Ytjhkadffaephmaa
open Go.RowKit

theorem Blk.newAt {W : World} {B : Nat} {vs : Array Value} {t : TypeId} (h : B = W.heap.size) : Blk (W.alloc (.cells vs t)) B vs t := by subst h; exact Blk.new W vs t

/-- What stands in a place of a law that names so many routes. -/
def okAt (many size : Int) (t v : Int) : Prop := if t < many then 0 ≤ v ∧ v ≤ size - 1 else v = 0

theorem okAt_span {many size t v : Int} : okAt many size t v ↔ 0 ≤ v ∧ v < (if t < many then size else 1) := by
  unfold okAt
  by_cases h : t < many
  · simp only [h, if_true]; omega
  · simp only [h, if_false]; omega

def Brk.at (b : Brk) (t : Nat) : Int := if t = 0 then b.a else if t = 1 then b.b else b.c

theorem fits_iff {a : Alg} {b : Brk} : a.fitsB b = true ↔ (∀ t : Nat, t < 3 → okAt (routesOf b.law) a.size t (b.at t)) ∧ (0 ≤ b.e ∧ b.e < spanE a b.law) := by
  have h3 : (∀ t : Nat, t < 3 → okAt (routesOf b.law) a.size t (b.at t)) ↔ okAt (routesOf b.law) a.size 0 b.a ∧ okAt (routesOf b.law) a.size 1 b.b ∧ okAt (routesOf b.law) a.size 2 b.c := by
    constructor
    · intro h
      exact ⟨h 0 (by omega), h 1 (by omega), h 2 (by omega)⟩
    · rintro ⟨h0, h1, h2⟩ t ht
      match t, ht with
      | 0, _ => exact h0
      | 1, _ => exact h1
      | 2, _ => exact h2
  rw [h3, okAt_span, okAt_span, okAt_span]
  unfold Alg.fitsB spanA spanB spanC
  generalize (if 0 < routesOf b.law then a.size else 1) = p0
  generalize (if 1 < routesOf b.law then a.size else 1) = p1
  generalize (if 2 < routesOf b.law then a.size else 1) = p2
  simp only [Bool.and_eq_true, decide_eq_true_eq]
  constructor
  · rintro ⟨⟨⟨h0, h1⟩, h2⟩, h4⟩
    exact ⟨⟨h0, h1, h2⟩, h4⟩
  · rintro ⟨⟨h0, h1, h2⟩, h4⟩
    exact ⟨⟨⟨h0, h1⟩, h2⟩, h4⟩

set_option maxRecDepth 100000 in
set_option maxHeartbeats 4000000 in
theorem refBroken_law (a : AlgM) (b : Brk) (w : World) (g : a.alg.Good) (l0 : 1 ≤ b.law) (l1 : b.law ≤ 9) :
    Calls Try.prog 24 #[a.val, b.val] w fun e w' => e = .returned (.int .i64 (if a.alg.fitsB b = false then 3 else 0)) ∧ Below w.heap.size w w' := by
  have s0 : 2 ≤ a.size := g.lo
  have s1 : a.size ≤ 24 := g.hi
  have hel : a.E.t.len ≤ 8 := g.el
  have HN := hide (fun W => refNames_any b.law l0 l1 W)
  have hro : Hid (0 ≤ routesOf b.law ∧ routesOf b.law ≤ 3) := hide (by rcases routes_cases b.law with e | e | e | e <;> omega)
  have hno : Hid (∀ t : Nat, t < 3 → ¬ okAt (routesOf b.law) a.size t (b.at t) → a.alg.fitsB b = false) := hide (fun t ht hn => by
    rw [Bool.eq_false_iff]; intro hf; exact hn ((fits_iff.1 hf).1 t ht))
  have hyes : Hid ((∀ t : Nat, t < 3 → okAt (routesOf b.law) a.size t (b.at t)) → a.alg.fitsB b = (decide (0 ≤ b.e) && decide (b.e < spanE a.alg b.law))) := hide (fun hall => by
    rw [Bool.eq_iff_iff, fits_iff]
    simp only [Bool.and_eq_true, decide_eq_true_eq]
    exact ⟨fun h => h.2, fun h => ⟨hall, h⟩⟩)
  have hsp : Hid (spanE a.alg b.law = if edgeOf b.law then (a.E.t.len : Int) else 1) := hide rfl
  have bA : Blk (((w.alloc (.cells #[.int .i64 a.size, .slice a.B.ga a.B.t.len a.B.cap, .slice a.E.ga a.E.t.len a.E.cap] 24)).alloc (.cells b.cells 26)).alloc (.cells #[.int .i64 b.a, .int .i64 b.b, .int .i64 b.c] 3)) w.heap.size #[.int .i64 a.size, .slice a.B.ga a.B.t.len a.B.cap, .slice a.E.ga a.E.t.len a.E.cap] 24 := ((Blk.new w _ _).alloc _).alloc _
  have bX : Blk (((w.alloc (.cells #[.int .i64 a.size, .slice a.B.ga a.B.t.len a.B.cap, .slice a.E.ga a.E.t.len a.E.cap] 24)).alloc (.cells b.cells 26)).alloc (.cells #[.int .i64 b.a, .int .i64 b.b, .int .i64 b.c] 3)) (w.heap.size + 1) b.cells 26 := Blk.alloc (Blk.newAt (by simp)) _
  have bR : Blk (((w.alloc (.cells #[.int .i64 a.size, .slice a.B.ga a.B.t.len a.B.cap, .slice a.E.ga a.E.t.len a.E.cap] 24)).alloc (.cells b.cells 26)).alloc (.cells #[.int .i64 b.a, .int .i64 b.b, .int .i64 b.c] 3)) (w.heap.size + 1 + 1) #[.int .i64 b.a, .int .i64 b.b, .int .i64 b.c] 3 := Blk.newAt (by simp)
  have hB0 : Below w.heap.size w (((w.alloc (.cells #[.int .i64 a.size, .slice a.B.ga a.B.t.len a.B.cap, .slice a.E.ga a.E.t.len a.E.cap] 24)).alloc (.cells b.cells 26)).alloc (.cells #[.int .i64 b.a, .int .i64 b.b, .int .i64 b.c] 3)) :=
    (((Below.refl _ w).alloc (Nat.le_refl _) _).alloc (by simp) _).alloc (by simp; omega) _
  generalize routesOf b.law = many at *
  generalize edgeOf b.law = edge at *
  generalize spanE a.alg b.law = sE at *
  generalize a.alg.fitsB b = fits at *
  obtain ⟨res, hres⟩ : ∃ res : Int, res = if fits = false then 3 else 0 := ⟨_, rfl⟩
  rw [← hres]
  have Hres := hide hres
  clear g hres
  simp only [AlgM.val, Mat.val, Brk.val, Brk.cells] at *
  go_enter Try.func24, Try.ntmps24
  go_wp2_with (first
    | (go_at_call 56; refine (between_any _ _ _ _).mono ?_; rintro e w' ⟨rfl, rfl⟩)
    | (go_at_call 57; refine (HN.out _).mono ?_; rintro e w' ⟨rfl, rfl⟩))
  generalize (((w.alloc (.cells #[.int .i64 a.size, .slice a.B.ga a.B.t.len a.B.cap, .slice a.E.ga a.E.t.len a.E.cap] 24)).alloc (.cells #[.int .i64 b.law, .int .i64 b.a, .int .i64 b.b, .int .i64 b.c, .int .i64 b.e] 26)).alloc (.cells #[.int .i64 b.a, .int .i64 b.b, .int .i64 b.c] 3)) = W at *
  go_loopw [8] (fun i wr => ∃ k : Nat, k ≤ 3 ∧ i = .int .i64 k ∧ Hid (∀ t : Nat, t < k → okAt many a.size t (b.at t)) ∧ Hid (Below W.heap.size W wr)) (fun i _ => 3 - (intOf i).toNat)
  case atStart => exact ⟨0, by omega, rfl, hide (fun t ht => absurd ht (Nat.not_lt_zero _)), hide (Below.refl _ _)⟩
  case round =>
    obtain ⟨k, hk, rfl, Hall, HBr⟩ := hrel
    have bA3 := bA.below HBr.out bA.lt
    have bX3 := bX.below HBr.out bX.lt
    have bR3 := bR.below HBr.out bR.lt
    have hBw := hide (hB0.trans (HBr.out.mono hB0.size))
    have cA0 := bA3.cell 0
    have cA2 := bA3.cell 2
    have cX4 := bX3.cell 4
    simp at cA0 cA2 cX4
    by_cases hlt : k < 3
    · have hkz : (k : Int) < 3 := by omega
      have hcell : wr.cell? ⟨w.heap.size + 1 + 1, k, none⟩ = some (.int .i64 (b.at k)) := by
        rw [bR3.cell k]
        match k, hlt with
        | 0, _ => rfl
        | 1, _ => rfl
        | 2, _ => rfl
      have Hn := hide (hno.out k hlt)
      have Hy : Hid (okAt many a.size k (b.at k) → ∀ t : Nat, t < k + 1 → okAt many a.size t (b.at t)) := hide (fun ho t ht => by
        by_cases e : t = k
        · subst e; exact ho
        · exact Hall.out t (by omega))
      have hok : Hid (okAt many a.size k (b.at k) ↔ if (k : Int) < many then 0 ≤ b.at k ∧ b.at k ≤ a.size - 1 else b.at k = 0) := hide Iff.rfl
      generalize b.at k = v at *
      by_cases hkm : (k : Int) < many
      · have hd2 : decide (many ≤ (k : Int)) = false := by simp; omega
        by_cases hv : 0 ≤ v ∧ v ≤ a.size - 1
        · have hb : (decide (0 ≤ v) && decide (v ≤ a.size - 1)) = true := by simp [hv]
          have CB := hide (fun W => show Calls Try.prog 56 #[.int .i64 v, .int .i64 0, .int .i64 (a.size - 1)] W fun e w' => e = .returned (.bool true) ∧ w' = W from by rw [← hb]; exact between_any _ _ _ W)
          have Hy2 := hide (Hy.out (hok.out.2 (by rw [if_pos hkm]; exact hv)))
          clear hb hv hok Hy Hn
          go_wp2_with fail
          go_quiet ((go_at_call 56; exact Calls.quiet_of_same (CB.out _)))
          go_wp2
          go_roundw
          case rel => exact ⟨k + 1, by omega, by go_num, Hy2, hide (below_drewN HBr.out _)⟩
          case measure => simp [intOf]; omega
        · have hb : (decide (0 ≤ v) && decide (v ≤ a.size - 1)) = false := by rw [Bool.eq_false_iff]; simpa using hv
          have CB := hide (fun W => show Calls Try.prog 56 #[.int .i64 v, .int .i64 0, .int .i64 (a.size - 1)] W fun e w' => e = .returned (.bool false) ∧ w' = W from by rw [← hb]; exact between_any _ _ _ W)
          have Hf := hide (Hn.out (fun ho => hv (by have := hok.out.1 ho; rw [if_pos hkm] at this; exact this)))
          clear hb hv hok Hy Hn
          go_wp2_with fail
          go_quiet ((go_at_call 56; exact Calls.quiet_of_same (CB.out _)))
          go_wp2
          go_ret
          exact ⟨by rw [Hres.out, Hf.out]; rfl, below_drewN hBw.out _⟩
      · have hd1 : decide ((k : Int) < many) = false := by simp; omega
        have hd2 : decide (many ≤ (k : Int)) = true := by simp; omega
        have hkm' : many ≤ (k : Int) := by omega
        by_cases hv : v = 0
        · have hb : ((v : Int) != 0) = false := by simp [hv]
          have Hy2 := hide (Hy.out (hok.out.2 (by rw [if_neg hkm]; exact hv)))
          clear hv hok Hy Hn
          go_wp2_with fail
          go_quiet (fail)
          go_wp2
          go_roundw
          case rel => exact ⟨k + 1, by omega, by go_num, Hy2, hide (below_drewN HBr.out _)⟩
          case measure => simp [intOf]; omega
        · have hb : ((v : Int) != 0) = true := by simp [hv]
          have Hf := hide (Hn.out (fun ho => hv (by have := hok.out.1 ho; rw [if_neg hkm] at this; exact this)))
          clear hv hok Hy Hn
          go_wp2_with fail
          go_quiet (fail)
          go_wp2
          go_ret
          exact ⟨by rw [Hres.out, Hf.out]; rfl, below_drewN hBw.out _⟩
    · have hk3 : k = 3 := by omega
      subst hk3
      have Hy2 := hide (hyes.out (fun t ht => Hall.out t ht))
      cases edge
      · have e1 : sE = 1 := hsp.out
        by_cases he : b.e = 0
        · have hb : ((b.e : Int) != 0) = false := by simp [he]
          have Hf := hide (show fits = true by rw [Hy2.out, e1, he]; rfl)
          clear he e1
          go_wp2
          go_ret
          exact ⟨by rw [Hres.out, Hf.out]; rfl, hBw.out⟩
        · have hb : ((b.e : Int) != 0) = true := by simp [he]
          have Hf := hide (show fits = false by rw [Hy2.out, e1, Bool.eq_false_iff]; simp; omega)
          clear he e1
          go_wp2
          go_ret
          exact ⟨by rw [Hres.out, Hf.out]; rfl, hBw.out⟩
      · have e1 : sE = a.E.t.len := hsp.out
        by_cases he : 0 ≤ b.e ∧ b.e ≤ (a.E.t.len : Int) - 1
        · have hb : (decide (0 ≤ b.e) && decide (b.e ≤ (a.E.t.len : Int) - 1)) = true := by simp [he]
          have CB := hide (fun W => show Calls Try.prog 56 #[.int .i64 b.e, .int .i64 0, .int .i64 ((a.E.t.len : Int) - 1)] W fun e w' => e = .returned (.bool true) ∧ w' = W from by rw [← hb]; exact between_any _ _ _ W)
          have Hf := hide (show fits = true by rw [Hy2.out, e1]; simp; omega)
          clear he e1 hb
          go_wp2_with (go_at_call 56; refine (CB.out _).mono ?_; rintro e w' ⟨rfl, rfl⟩)
          go_ret
          exact ⟨by rw [Hres.out, Hf.out]; rfl, hBw.out⟩
        · have hb : (decide (0 ≤ b.e) && decide (b.e ≤ (a.E.t.len : Int) - 1)) = false := by rw [Bool.eq_false_iff]; simpa using he
          have CB := hide (fun W => show Calls Try.prog 56 #[.int .i64 b.e, .int .i64 0, .int .i64 ((a.E.t.len : Int) - 1)] W fun e w' => e = .returned (.bool false) ∧ w' = W from by rw [← hb]; exact between_any _ _ _ W)
          have Hf := hide (show fits = false by rw [Hy2.out, e1, Bool.eq_false_iff]; simp; omega)
          clear he e1 hb
          go_wp2_with (go_at_call 56; refine (CB.out _).mono ?_; rintro e w' ⟨rfl, rfl⟩)
          go_ret
          exact ⟨by rw [Hres.out, Hf.out]; rfl, hBw.out⟩

set_option maxHeartbeats 1000000 in
theorem refBroken_kind (a : AlgM) (b : Brk) (w : World) (hl : ¬ (1 ≤ b.law ∧ b.law ≤ 9)) :
    Calls Try.prog 24 #[a.val, b.val] w fun e w' => e = .returned (.int .i64 7) ∧ Below w.heap.size w w' := by
  have hb0 := fun o1 o2 => frame_below w o1 o2 0
  have hb : (decide (1 ≤ b.law) && decide (b.law ≤ 9)) = false := by rw [Bool.eq_false_iff]; simpa using hl
  have CB := hide (fun W => show Calls Try.prog 56 #[.int .i64 b.law, .int .i64 1, .int .i64 9] W fun e w' => e = .returned (.bool false) ∧ w' = W from by rw [← hb]; exact between_any _ _ _ W)
  clear hl hb
  simp only [AlgM.val, Brk.val]
  go_enter Try.func24, Try.ntmps24
  go_wp2_with (go_at_call 56; refine (CB.out _).mono ?_; rintro e w' ⟨rfl, rfl⟩)
  go_ret
  exact ⟨rfl, hb0 _ _⟩

theorem refBroken_any (a : AlgM) (b : Brk) (w : World) (hc : a.alg.check = 0) :
    Calls Try.prog 24 #[a.val, b.val] w fun e w' => e = .returned (.int .i64 (a.alg.holdsE b)) ∧ Below w.heap.size w w' := by
  by_cases hl : 1 ≤ b.law ∧ b.law ≤ 9
  · have := refBroken_law a b w (Alg.good_of_check hc) hl.1 hl.2
    have e1 : a.alg.holdsE b = if a.alg.fitsB b = false then 3 else 0 := by unfold Alg.holdsE; rw [if_neg (by simp [hc]), if_neg (by omega)]
    rw [e1]; exact this
  · have := refBroken_kind a b w hl
    have e1 : a.alg.holdsE b = 7 := by unfold Alg.holdsE; rw [if_neg (by simp [hc]), if_pos (by omega)]
    rw [e1]; exact this

end Go.Proofs.Ytjhkadffaephmaa
