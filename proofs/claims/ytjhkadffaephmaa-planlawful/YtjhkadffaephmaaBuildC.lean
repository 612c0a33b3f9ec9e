/-
  plan.buildPair: its two functions.
-/
import Derived.Test.YtjhkadffaephmaaBuildB
namespace Go.Proofs.Ytjhkadffaephmaa
set_option maxRecDepth 100000
open Go.RowKit

theorem calls_pair1 (args : Array Value) (W : World) : (callFunc 134 args).run Try.prog W = .ok (.enter 134 args) W := by rfl
theorem calls_pair2 (args : Array Value) (W : World) : (callFunc 135 args).run Try.prog W = .ok (.enter 135 args) W := by rfl

/-- What the two functions see: the numbers, and the algebras. -/
structure PairSees (x y : NAlg) (mx my : AlgM) (bi bs by' bx n : Nat) (W : World) : Prop where
  lx : LiesA mx x
  ly : LiesA my y
  ix : mx.In n W
  iy : my.In n W
  ci : W.cell? ⟨bi, 0, none⟩ = some (.int .i64 (((x.size - 1) * (y.size - 1) : Nat) : Int))
  cs : W.cell? ⟨bs, 0, none⟩ = some (.int .i64 ((y.size - 1 : Nat) : Int))
  cyb : W.cell? ⟨by', 1, none⟩ = some my.B.val
  cye : W.cell? ⟨by', 2, none⟩ = some my.E.val
  cxb : W.cell? ⟨bx, 1, none⟩ = some mx.B.val
  cxe : W.cell? ⟨bx, 2, none⟩ = some mx.E.val

set_option maxHeartbeats 2000000 in
theorem pair1_any (x y : NAlg) (mx my : AlgM) (bi bs by' bx n a b : Nat) (W : World) (h : PairSees x y mx my bi bs by' bx n W) (hx : x.Ok) (hy : y.Ok) (hsz : (x.size - 1) * (y.size - 1) + 1 ≤ 24) (ha : a < (x.size - 1) * (y.size - 1) + 1) (hb : b < (x.size - 1) * (y.size - 1) + 1) :
    Calls Try.prog 134 #[.int .i64 a, .int .i64 b, .pointer (some ⟨bi, 0, none⟩), .pointer (some ⟨bs, 0, none⟩), .pointer (some ⟨by', 0, none⟩), .pointer (some ⟨bx, 0, none⟩)] W fun r w' => r = .returned (.int .i64 (pairBest x y a b : Nat)) ∧ ∃ m, w' = W.drewN m := by
  have lx := hx.lo
  have ly := hy.lo
  have hx24 := hx.hi
  have hy24 := hy.hi
  obtain ⟨s1, hs1⟩ : ∃ s1, x.size = s1 + 1 := ⟨x.size - 1, by omega⟩
  obtain ⟨s2, hs2⟩ : ∃ s2, y.size = s2 + 1 := ⟨y.size - 1, by omega⟩
  have ci := h.ci
  have cs := h.cs
  have cyb := h.cyb
  have cxb := h.cxb
  have lenX : mx.B.t.len = s1 + 1 := by rw [h.lx.B]; exact hs1
  have lenY : my.B.t.len = s2 + 1 := by rw [h.ly.B]; exact hs2
  simp only [Mat.val, lenX, lenY] at cyb cxb
  unfold pairBest
  have e1 : x.size - 1 = s1 := by omega
  have e2 : y.size - 1 = s2 := by omega
  simp only [e1, e2] at ci cs hsz ha hb ⊢
  generalize hinv : s1 * s2 = inv at *
  have hp2 : 0 < s2 := by omega
  by_cases c1 : a = inv
  · rw [if_pos c1]
    have f1 : ((a : Int) == (inv : Int)) = true := by simp [c1]
    clear c1 hinv
    go_enter Try.func134, Try.ntmps134
    go_wp2
    go_ret
    exact ⟨rfl, 0, rfl⟩
  · rw [if_neg c1]
    have f1 : ((a : Int) == (inv : Int)) = false := by simp; omega
    by_cases c2 : b = inv
    · rw [if_pos c2]
      have f2 : ((b : Int) == (inv : Int)) = true := by simp [c2]
      clear c1 c2 hinv
      go_enter Try.func134, Try.ntmps134
      go_wp2
      go_ret
      exact ⟨rfl, 0, rfl⟩
    · rw [if_neg c2]
      have f2 : ((b : Int) == (inv : Int)) = false := by simp; omega
      have ql : a / s2 < s1 := by rw [Nat.div_lt_iff_lt_mul hp2]; omega
      have ql' : b / s2 < s1 := by rw [Nat.div_lt_iff_lt_mul hp2]; omega
      have rl : a % s2 < s2 := Nat.mod_lt _ hp2
      have rl' : b % s2 < s2 := Nat.mod_lt _ hp2
      have hq : (a : Int) / (s2 : Int) = ((a / s2 : Nat) : Int) := (Int.natCast_ediv a s2).symm
      have hq' : (b : Int) / (s2 : Int) = ((b / s2 : Nat) : Int) := (Int.natCast_ediv b s2).symm
      have hr : (a : Int) % (s2 : Int) = ((a % s2 : Nat) : Int) := (Int.natCast_emod a s2).symm
      have hr' : (b : Int) % (s2 : Int) = ((b % s2 : Nat) : Int) := (Int.natCast_emod b s2).symm
      obtain ⟨yg, yr, yc⟩ := best_row h.ly h.iy (e := a % s2) (by omega)
      have yc' := yc (b % s2) (by omega)
      have yv : y.best (a % s2) (b % s2) < s2 := hy.blt rl rl'
      obtain ⟨xg, xr, xc⟩ := best_row h.lx h.ix (e := a / s2) (by omega)
      have xc' := xc (b / s2) (by omega)
      rw [yg] at cyb
      rw [xg] at cxb
      have hm : ((a / s2 : Nat) : Int) * (s2 : Int) = ((a / s2 * s2 : Nat) : Int) := by rw [Int.natCast_mul]
      have hm1 : a / s2 * s2 ≤ 24 := Nat.le_trans (Nat.div_mul_le_self a s2) (by omega)
      rw [hs2] at yr hy24
      rw [hs1] at xr hx24
      clear yg xg yc xc hs1 hs2 e1 e2 lenX lenY h
      generalize a / s2 = qa at *
      generalize b / s2 = qb at *
      generalize a % s2 = ra at *
      generalize b % s2 = rb at *
      generalize y.best ra rb = yb at *
      generalize x.best qa qb = xb at *
      generalize qa * s2 = mm at *
      have hs24 : s1 + 1 ≤ 24 := hx24
      have hs25 : s2 + 1 ≤ 24 := hy24
      have j1 : (ra : Int) ≤ 24 := by omega
      have j2 : (rb : Int) ≤ 24 := by omega
      have j3 : (qa : Int) ≤ 24 := by omega
      have j4 : (qb : Int) ≤ 24 := by omega
      have j5 : (mm : Int) ≤ 24 := by omega
      have j6 : (yb : Int) ≤ 24 := by omega
      have j7 : (s2 : Int) ≤ 24 := by omega
      have hs2i : (0 : Int) < (s2 : Int) := by omega
      have hs2z : ((s2 : Int) == 0) = false := by simp; omega
      have i1 : (ra : Int) < (s2 : Int) + 1 := by omega
      have i2 : (rb : Int) < (s2 : Int) + 1 := by omega
      have i3 : (qa : Int) < (s1 : Int) + 1 := by omega
      have i4 : (qb : Int) < (s1 : Int) + 1 := by omega
      by_cases c3 : qa = qb
      · rw [if_pos c3]
        have f3 : ((qa : Int) == (qb : Int)) = true := by simp [c3]
        clear c1 c2 c3 hinv
        go_enter Try.func134, Try.ntmps134
        go_wp2_with fail
        go_quiet (fail)
        go_wp2_with fail
        go_quiet (fail)
        go_wp2
        go_ret
        exact ⟨ret_int (by first | omega | (rw [IntKind.wrap_i64]; omega)), _, by rw [World.drewN_drewN]⟩
      · rw [if_neg c3]
        have f3 : ((qa : Int) == (qb : Int)) = false := by simp; omega
        by_cases c4 : xb = qa
        · rw [if_pos c4]
          have f4 : ((xb : Int) == (qa : Int)) = true := by simp [c4]
          clear c1 c2 c3 c4 hinv
          go_enter Try.func134, Try.ntmps134
          go_wp2_with fail
          go_quiet (fail)
          go_wp2_with fail
          go_quiet (fail)
          go_wp2
          go_ret
          exact ⟨rfl, _, by rw [World.drewN_drewN]⟩
        · rw [if_neg c4]
          have f4 : ((xb : Int) == (qa : Int)) = false := by simp; omega
          clear c1 c2 c3 c4 hinv
          go_enter Try.func134, Try.ntmps134
          go_wp2_with fail
          go_quiet (fail)
          go_wp2_with fail
          go_quiet (fail)
          go_wp2
          go_ret
          exact ⟨rfl, _, by rw [World.drewN_drewN]⟩

set_option maxHeartbeats 2000000 in
theorem pair2_any (x y : NAlg) (mx my : AlgM) (bi bs by' bx bf n e a : Nat) (W : World) (h : PairSees x y mx my bi bs by' bx n W) (hf : W.cell? ⟨bf, 0, none⟩ = some (.int .i64 ((x.size - 1 : Nat) : Int))) (hx : x.Ok) (hy : y.Ok) (hel : x.el = y.el) (he : e < x.el) (ha : a < (x.size - 1) * (y.size - 1) + 1) :
    Calls Try.prog 135 #[.int .i64 e, .int .i64 a, .pointer (some ⟨bi, 0, none⟩), .pointer (some ⟨bx, 0, none⟩), .pointer (some ⟨bs, 0, none⟩), .pointer (some ⟨by', 0, none⟩), .pointer (some ⟨bf, 0, none⟩)] W fun r w' => r = .returned (.int .i64 (pairEdge x y e a : Nat)) ∧ ∃ m, w' = W.drewN m := by
  have lx := hx.lo
  have ly := hy.lo
  have hx24 := hx.hi
  have hy24 := hy.hi
  have he8 := hx.el
  obtain ⟨s1, hs1⟩ : ∃ s1, x.size = s1 + 1 := ⟨x.size - 1, by omega⟩
  obtain ⟨s2, hs2⟩ : ∃ s2, y.size = s2 + 1 := ⟨y.size - 1, by omega⟩
  have ci := h.ci
  have cs := h.cs
  have cyb := h.cye
  have cxb := h.cxe
  have lenX : mx.E.t.len = x.el := by rw [h.lx.E]; rfl
  have lenY : my.E.t.len = x.el := by rw [h.ly.E]; exact hel.symm
  simp only [Mat.val, lenX, lenY] at cyb cxb
  unfold pairEdge
  have e1 : x.size - 1 = s1 := by omega
  have e2 : y.size - 1 = s2 := by omega
  simp only [e1, e2] at ci cs ha hf ⊢
  generalize hinv : s1 * s2 = inv at *
  have hp2 : 0 < s2 := by omega
  by_cases c1 : a = inv
  · rw [if_pos c1]
    have f1 : ((a : Int) == (inv : Int)) = true := by simp [c1]
    clear c1 hinv
    go_enter Try.func135, Try.ntmps135
    go_wp2
    go_ret
    exact ⟨rfl, 0, rfl⟩
  · rw [if_neg c1]
    have f1 : ((a : Int) == (inv : Int)) = false := by simp; omega
    have ql : a / s2 < s1 := by rw [Nat.div_lt_iff_lt_mul hp2]; omega
    have rl : a % s2 < s2 := Nat.mod_lt _ hp2
    have hq : (a : Int) / (s2 : Int) = ((a / s2 : Nat) : Int) := (Int.natCast_ediv a s2).symm
    have hr : (a : Int) % (s2 : Int) = ((a % s2 : Nat) : Int) := (Int.natCast_emod a s2).symm
    obtain ⟨yg, yr, yc⟩ := edge_row h.ly h.iy (e := e) (by omega) (by omega)
    have yc' := yc (a % s2) (by omega)
    have yv := hy.elt e (a % s2) (by omega) (by omega)
    obtain ⟨xg, xr, xc⟩ := edge_row h.lx h.ix (e := e) he (by omega)
    have xc' := xc (a / s2) (by omega)
    have xv := hx.elt e (a / s2) he (by omega)
    rw [yg] at cyb
    rw [xg] at cxb
    rw [hs2] at yr yv hy24
    rw [hs1] at xr xv hx24
    clear yg xg yc xc hs1 hs2 e1 e2 lenX lenY h
    generalize y.edge e (a % s2) = yb at *
    generalize x.edge e (a / s2) = xb at *
    generalize a / s2 = qa at *
    generalize a % s2 = ra at *
    have hs2i : (0 : Int) < (s2 : Int) := by omega
    have hs2z : ((s2 : Int) == 0) = false := by simp; omega
    have i0 : (e : Int) < (x.el : Int) := by omega
    have i1 : (ra : Int) < (s2 : Int) + 1 := by omega
    have i3 : (qa : Int) < (s1 : Int) + 1 := by omega
    have j1 : (ra : Int) ≤ 24 := by omega
    have j3 : (qa : Int) ≤ 24 := by omega
    have j5 : (xb : Int) ≤ 24 := by omega
    have j6 : (yb : Int) ≤ 24 := by omega
    have j7 : (s2 : Int) ≤ 24 := by omega
    by_cases c2 : xb = s1
    · rw [if_pos (Or.inl c2)]
      have f2 : ((xb : Int) == (s1 : Int)) = true := by simp [c2]
      clear c1 c2 hinv
      go_enter Try.func135, Try.ntmps135
      go_wp2_with fail
      go_quiet (fail)
      go_wp2
      go_ret
      exact ⟨rfl, _, rfl⟩
    · have f2 : ((xb : Int) == (s1 : Int)) = false := by simp; omega
      by_cases c3 : yb = s2
      · rw [if_pos (Or.inr c3)]
        have f3 : ((yb : Int) == (s2 : Int)) = true := by simp [c3]
        clear c1 c2 c3 hinv
        go_enter Try.func135, Try.ntmps135
        go_wp2_with fail
        go_quiet (fail)
        go_wp2
        go_ret
        exact ⟨rfl, _, rfl⟩
      · rw [if_neg (fun hh => by rcases hh with hh | hh; exact c2 hh; exact c3 hh)]
        have f3 : ((yb : Int) == (s2 : Int)) = false := by simp; omega
        have hm : (xb : Int) * (s2 : Int) = ((xb * s2 : Nat) : Int) := by rw [Int.natCast_mul]
        have hm1 : xb * s2 ≤ 24 * 24 := Nat.mul_le_mul (by omega) (by omega)
        generalize xb * s2 = mm at *
        have j8 : (mm : Int) ≤ 576 := by omega
        clear c1 c2 c3 hinv
        go_enter Try.func135, Try.ntmps135
        go_wp2_with fail
        go_quiet (fail)
        go_wp2
        go_ret
        exact ⟨ret_int (by omega), _, rfl⟩

end Go.Proofs.Ytjhkadffaephmaa
