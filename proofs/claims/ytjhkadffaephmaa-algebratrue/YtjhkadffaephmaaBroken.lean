/-
  algebra.brokenBy: the first case of a law that does not hold.
-/
import Derived.Test.YtjhkadffaephmaaCases
import Derived.Test.YtjhkadffaephmaaHoldsD
namespace Go.Proofs.Ytjhkadffaephmaa
open Go.RowKit Go.Shelf
attribute [local go_sem] Oper.semAt_some

/-- A block of plain cells that nothing has frozen. -/
def Blk (W : World) (B : Nat) (vs : Array Value) (t : TypeId) : Prop := W.heap[B]? = some (.cells vs t (0, 0))

theorem Blk.lt {W : World} {B : Nat} {vs : Array Value} {t : TypeId} (h : Blk W B vs t) : B < W.heap.size := (Array.getElem?_eq_some_iff.1 h).1
theorem Blk.cell {W : World} {B : Nat} {vs : Array Value} {t : TypeId} (h : Blk W B vs t) (i : Nat) : W.cell? ⟨B, i, none⟩ = vs[i]? := by simp [World.cell?, show W.heap[B]? = _ from h]
theorem Blk.frozen {W : World} {B : Nat} {vs : Array Value} {t : TypeId} (h : Blk W B vs t) (i : Nat) : W.frozen? ⟨B, i, none⟩ = false := by simp [World.frozen?, show W.heap[B]? = _ from h]
theorem Blk.new (W : World) (vs : Array Value) (t : TypeId) : Blk (W.alloc (.cells vs t)) W.heap.size vs t := World.alloc_heap_new W _
theorem Blk.below {W W' : World} {B k : Nat} {vs : Array Value} {t : TypeId} (h : Blk W B vs t) (hb : Below k W W') (hk : B < k) : Blk W' B vs t := (hb.block B hk).trans h
theorem Blk.kept {W W' : World} {row : Option Nat} {B : Nat} {vs : Array Value} {t : TypeId} (h : Blk W B vs t) (hg : W.grownBy W' row) (hne : some B ≠ row) : Blk W' B vs t := (hg.block B h.lt hne).trans h
theorem Blk.alloc {W : World} {B : Nat} {vs : Array Value} {t : TypeId} (h : Blk W B vs t) (o : Obj) : Blk (W.alloc o) B vs t := h.kept (World.grownBy_alloc W o none) (by simp)
theorem Blk.set {W : World} {B : Nat} {vs : Array Value} {t : TypeId} (h : Blk W B vs t) (i : Nat) (v : Value) : Blk (W.setCell ⟨B, i, none⟩ v) B (vs.setIfInBounds i v) t := by
  obtain ⟨hlt, hk⟩ := Array.getElem?_eq_some_iff.1 h
  show (W.heap.modify B _)[B]? = _
  rw [Array.getElem?_eq_getElem (by rw [Array.size_modify]; exact hlt), Array.getElem_modify_self, hk]
  rfl
/-- Five stores into a block of five cells. -/
def set5 (W : World) (B : Nat) (v0 v1 v2 v3 v4 : Value) : World :=
  ((((W.setCell ⟨B, 0, none⟩ v0).setCell ⟨B, 1, none⟩ v1).setCell ⟨B, 2, none⟩ v2).setCell ⟨B, 3, none⟩ v3).setCell ⟨B, 4, none⟩ v4
theorem Blk.set5 {W : World} {B : Nat} {t : TypeId} {u0 u1 u2 u3 u4 : Value} (h : Blk W B #[u0, u1, u2, u3, u4] t) (v0 v1 v2 v3 v4 : Value) : Blk (set5 W B v0 v1 v2 v3 v4) B #[v0, v1, v2, v3, v4] t := by
  have := ((((h.set 0 v0).set 1 v1).set 2 v2).set 3 v3).set 4 v4
  unfold Ytjhkadffaephmaa.set5
  simpa using this
theorem keeps5 (W : World) (B : Nat) (v0 v1 v2 v3 v4 : Value) : KeepsOthers W (set5 W B v0 v1 v2 v3 v4) :=
  ((((KeepsOthers.setCell _ _ _).trans (KeepsOthers.setCell _ _ _)).trans (KeepsOthers.setCell _ _ _)).trans (KeepsOthers.setCell _ _ _)).trans (KeepsOthers.setCell _ _ _)
theorem below5 {W W' : World} {k B : Nat} (h : Below k W W') (hk : k ≤ B) (v0 v1 v2 v3 v4 : Value) : Below k W (set5 W' B v0 v1 v2 v3 v4) :=
  ((((h.setCell (p := ⟨B, 0, none⟩) hk _).setCell (p := ⟨B, 1, none⟩) hk _).setCell (p := ⟨B, 2, none⟩) hk _).setCell (p := ⟨B, 3, none⟩) hk _).setCell (p := ⟨B, 4, none⟩) hk _
theorem blk_own {β : Type} (B : Nat) (t : TypeId) (f : β → Array Value) : Own (fun s W => Blk W B (f s) t) := fun s X Y row hs hg hrow =>
  hs.kept hg (fun e' => by obtain ⟨o, ho, hc⟩ := hrow B e'.symm; rw [show X.heap[B]? = _ from hs] at ho; cases ho; cases hc)

theorem keepsFrom_below {B k : Nat} {W W' : World} (h : Below k W W') (hk : W.heap.size ≤ k) : KeepsFrom B W W' where
  size := h.size
  same := fun i _ _ hi _ => (h.block i (Nat.lt_of_lt_of_le (Array.getElem?_eq_some_iff.1 hi).1 hk)).trans hi

def Brk.cells (x : Brk) : Array Value := #[.int .i64 x.law, .int .i64 x.a, .int .i64 x.b, .int .i64 x.c, .int .i64 x.e]
def Brk.none : Brk := ⟨0, 0, 0, 0, 0⟩

/-- The first case that does not hold; none, if all do. -/
def Alg.first (a : Alg) (xs : List Brk) : Brk := (xs.find? fun b => !a.holds b).getD Brk.none

/-- All cases of a law in an algebra. -/
def Alg.casesOf (a : Alg) (l : Int) : List Brk := casesA l (spanB a l).toNat (spanC a l).toNat (spanE a l).toNat (spanA a l).toNat

theorem first_of_all {a : Alg} {xs : List Brk} (h : ∀ b ∈ xs, a.holds b = true) : a.first xs = Brk.none := by
  unfold Alg.first
  rw [List.find?_eq_none.2 (fun b hb => by simp [h b hb])]; rfl

theorem first_of_pre {a : Alg} {xs q : List Brk} {b : Brk} (hp : q ++ [b] <+: xs) (h : ∀ x ∈ q, a.holds x = true) (hb : a.holds b = false) : a.first xs = b := by
  obtain ⟨r, rfl⟩ := hp
  unfold Alg.first
  rw [List.append_assoc, List.find?_append, List.find?_eq_none.2 (fun x hx => by simp [h x hx])]
  simp [hb]

set_option maxHeartbeats 400000 in
theorem cases_any (l sa sb sc se : Int) (w : World) :
    Calls Try.prog 129 #[.int .i64 l, spanVal sa sb sc se] w fun e w' =>
      e = .returned (.func (.func 141) #[] #[.pointer (some ⟨w.heap.size + 1, 0, none⟩), .pointer (some ⟨w.heap.size, 0, none⟩)]) ∧
      w' = (w.alloc (.cells #[.int .i64 l] 3)).alloc (.cells #[.int .i64 sa, .int .i64 sb, .int .i64 sc, .int .i64 se] 96) := by
  simp only [spanVal]
  go_enter Try.func129, Try.ntmps129
  go_wp2
  go_ret
  exact ⟨rfl, rfl⟩

theorem routes_cases (l : Int) : routesOf l = 0 ∨ routesOf l = 1 ∨ routesOf l = 2 ∨ routesOf l = 3 := by
  unfold routesOf; split <;> (try split) <;> (try split) <;> simp
theorem edges_cases (l : Int) : edgesOf l = 0 ∨ edgesOf l = 1 := by
  unfold edgesOf; split <;> simp

theorem span_law (a : AlgM) (l : Int) (w : World) (hE : a.E.t.len ≤ maxLen) :
    Calls Try.prog 62 #[a.val, .agg #[.int .i64 (routesOf l), .int .i64 (edgesOf l)]] w fun en w' =>
      en = .returned (spanVal (spanA a.alg l) (spanB a.alg l) (spanC a.alg l) (spanE a.alg l)) ∧ Below w.heap.size w w' := by
  have e1 : spanE a.alg l = if 0 < edgesOf l then (a.E.t.len : Int) else 1 := by
    unfold spanE edgeOf edgesOf
    by_cases h : 6 ≤ l <;> simp [h, AlgM.alg]
  rw [e1]
  exact span_any a _ _ w (routes_cases l) (edges_cases l) hE

theorem Alg.Good.spans {a : Alg} (g : a.Good) (l : Int) : ∃ sa sb sc se : Nat, spanA a l = sa ∧ spanB a l = sb ∧ spanC a l = sc ∧ spanE a l = se ∧ a.casesOf l = casesA l sb sc se sa ∧ sa ≤ 100 ∧ sb ≤ 100 ∧ sc ≤ 100 ∧ se ≤ 100 := by
  have h0 := g.lo
  have h1 := g.hi
  have h2 := g.el
  have hA : 0 ≤ spanA a l ∧ spanA a l ≤ 100 := by unfold spanA; split <;> omega
  have hB : 0 ≤ spanB a l ∧ spanB a l ≤ 100 := by unfold spanB; split <;> omega
  have hC : 0 ≤ spanC a l ∧ spanC a l ≤ 100 := by unfold spanC; split <;> omega
  have hE : 0 ≤ spanE a l ∧ spanE a l ≤ 100 := by unfold spanE; split <;> omega
  exact ⟨_, _, _, _, (Int.toNat_of_nonneg hA.1).symm, (Int.toNat_of_nonneg hB.1).symm, (Int.toNat_of_nonneg hC.1).symm, (Int.toNat_of_nonneg hE.1).symm, rfl, by omega, by omega, by omega, by omega⟩

set_option maxRecDepth 100000 in
set_option maxHeartbeats 2000000 in
theorem broken_any (a : AlgM) (g : a.alg.Good) (l : Int) (l0 : 1 ≤ l) (l1 : l ≤ 9) (w : World) (h : a.In w.heap.size w) :
    Calls Try.prog 101 #[a.val, .int .i64 l, .agg #[.int .i64 (routesOf l), .int .i64 (edgesOf l)]] w fun e w' => e = .returned (a.alg.first (a.alg.casesOf l)).val ∧ Below w.heap.size w w' := by
  have hEl := h.E.len
  have cs := fun W => span_law a l W hEl
  have hfit : ∀ b ∈ a.alg.casesOf l, a.alg.Fits b := by
    obtain ⟨sa, sb, sc, se, ea, eb, ec, ee, hco, _⟩ := g.spans l
    intro b hb
    rw [hco] at hb
    obtain ⟨rfl, ha, hb, hc, he⟩ := mem_casesA hb
    exact ⟨l0, l1, ha.1, by omega, hb.1, by omega, hc.1, by omega, he.1, by omega⟩
  obtain ⟨sa, sb, sc, se, ea, eb, ec, ee, hco, m0, m1, m2, m3⟩ := g.spans l
  rw [ea, eb, ec, ee] at cs
  rw [hco] at hfit ⊢
  have CS := hide cs
  have HF := hide hfit
  clear cs hfit ea eb ec ee hco hEl
  generalize routesOf l = ro at *
  generalize edgesOf l = eo at *
  refine (callsIn_wide (n := 3)).1 ?_
  refine callsIn_of_wp_marks Try.func101 rfl trivial ?_ rfl
  simp only [AlgM.val, Try.ntmps101, List.size_toArray, List.length_cons, List.length_nil, Nat.reduceAdd, Nat.reduceSub, Array.replicate_succ, Array.replicate_zero, List.push_toArray, List.append_toArray, List.nil_append, List.cons_append]
  gi_wp2_with (first
    | (refine ⟨trivial, ?_⟩; gi_at_call 62; refine (callsIn_wide.2 (CS.out _)).mono ?_; rintro e w1 ⟨rfl, hb1⟩)
    | (refine ⟨trivial, ?_⟩; gi_at_call 129; refine (callsIn_wide.2 (cases_any _ _ _ _ _ _)).mono ?_; rintro e w2 ⟨rfl, rfl⟩))
  have hbA : Below w.heap.size w (((w.alloc (.cells #[.int .i64 a.size, a.B.val, a.E.val] 24)).alloc (.cells #[.int .i64 ro, .int .i64 eo] 91)).alloc (.cells #[.int .i64 0, .int .i64 0, .int .i64 0, .int .i64 0, .int .i64 0] 26)) :=
    (((Below.refl _ w).alloc (Nat.le_refl _) _).alloc (by simp) _).alloc (by simp; omega) _
  have bA : Blk (((w.alloc (.cells #[.int .i64 a.size, a.B.val, a.E.val] 24)).alloc (.cells #[.int .i64 ro, .int .i64 eo] 91)).alloc (.cells #[.int .i64 0, .int .i64 0, .int .i64 0, .int .i64 0, .int .i64 0] 26)) w.heap.size #[.int .i64 a.size, a.B.val, a.E.val] 24 :=
    ((Blk.new w _ _).alloc _).alloc _
  have bR := Blk.new ((w.alloc (.cells #[.int .i64 a.size, a.B.val, a.E.val] 24)).alloc (.cells #[.int .i64 ro, .int .i64 eo] 91)) #[.int .i64 0, .int .i64 0, .int .i64 0, .int .i64 0, .int .i64 0] 26
  simp only [World.size_alloc] at bR
  have hs1 := hb1.size
  simp only [World.size_alloc] at hs1 hb1
  have bA1 := bA.below hb1 (by omega)
  have bR1 := bR.below hb1 (by omega)
  have hB1 := hbA.trans (hb1.mono (by omega))
  clear hb1 bA bR hbA
  have bL := (Blk.new w1 #[.int .i64 l] 3).alloc (.cells #[.int .i64 sa, .int .i64 sb, .int .i64 sc, .int .i64 se] 96)
  have bS := Blk.new (w1.alloc (.cells #[.int .i64 l] 3)) #[.int .i64 sa, .int .i64 sb, .int .i64 sc, .int .i64 se] 96
  simp only [World.size_alloc] at bS
  have bA2 := (bA1.alloc (.cells #[.int .i64 l] 3)).alloc (.cells #[.int .i64 sa, .int .i64 sb, .int .i64 sc, .int .i64 se] 96)
  have bR2 := (bR1.alloc (.cells #[.int .i64 l] 3)).alloc (.cells #[.int .i64 sa, .int .i64 sb, .int .i64 sc, .int .i64 se] 96)
  have hB2 := (hB1.alloc (o := .cells #[.int .i64 l] 3) (by omega)).alloc (o := .cells #[.int .i64 sa, .int .i64 sb, .int .i64 sc, .int .i64 se] 96) (by simp; omega)
  have hsz : ((w1.alloc (.cells #[.int .i64 l] 3)).alloc (.cells #[.int .i64 sa, .int .i64 sb, .int .i64 sc, .int .i64 se] 96)).heap.size = w1.heap.size + 2 := by simp
  obtain ⟨W0, hW0⟩ : ∃ W0, (w1.alloc (.cells #[.int .i64 l] 3)).alloc (.cells #[.int .i64 sa, .int .i64 sb, .int .i64 sc, .int .i64 se] 96) = W0 := ⟨_, rfl⟩
  rw [hW0] at bL bS bA2 bR2 hB2 hsz ⊢
  clear hW0 bA1 bR1 hB1
  have z0 : Brk.none.cells = #[.int .i64 0, .int .i64 0, .int .i64 0, .int .i64 0, .int .i64 0] := rfl
  rw [← z0] at bR2
  clear z0
  refine wpIn_rangeFunc_ownH (α := { b : Brk // b ∈ casesA l sb sc se sa }) rfl (by omega) (gf := 141) (lb := #[.pointer (some ⟨w1.heap.size + 1, 0, none⟩), .pointer (some ⟨w1.heap.size, 0, none⟩)]) rfl trivial (enters_of Try.func141 (by kernel_rfl) rfl)
    (encs := fun x => #[x.1.val]) (Kp := Below W0.heap.size) (S := fun xs => xs.map (·.1) = casesA l sb sc se sa) (Sp := fun pre => pre.map (·.1) <+: casesA l sb sc se sa) (N := (casesA l sb sc se sa).length) (w0 := W0)
    (fun lr J Jx W hW _ _ hY h0 => cases1_in Fence.wide _ trivial rfl (by omega) lr (w1.heap.size + 1) w1.heap.size W0.heap.size l sa sb sc se ⟨m0, m1, m2, m3⟩ J Jx hY W (by omega) (by omega)
      ((bL.below hW (by omega)).cell 0) ((bS.below hW (by omega)).cell 0) ((bS.below hW (by omega)).cell 1) ((bS.below hW (by omega)).cell 2) ((bS.below hW (by omega)).cell 3) h0)
    belowK_t (belowK_b (Nat.le_refl _)) (Below.refl _ _) (fun _ => rfl)
    (fun pre W => ((∀ b ∈ pre, a.alg.holds b.1 = true) ∧ (Blk W w.heap.size #[.int .i64 a.size, a.B.val, a.E.val] 24 ∧ Blk W (w.heap.size + 1 + 1) Brk.none.cells 26)) ∧ (W0.heap.size ≤ W.heap.size ∧ Below w.heap.size w W))
    (fun c pre W => (c = .ret ∧ ∃ q b, pre = q ++ [b] ∧ (∀ x ∈ q, a.alg.holds x.1 = true) ∧ a.alg.holds b.1 = false ∧ Blk W (w.heap.size + 1 + 1) b.1.cells 26) ∧ Below w.heap.size w W)
    (OwnFrom.and (OwnFrom.and (fun _ _ _ _ hs _ _ => hs) (OwnFrom.and (Own.from (blk_own _ _ (fun _ => _)) _) (Own.from (blk_own _ _ (fun _ => _)) _))) (OwnFrom.and (fun _ _ _ _ hs hg _ => Nat.le_trans hs hg.size) (ownFrom_below (Nat.le_refl _) (by omega))))
    (fun c => OwnFrom.and (fun s X Y row hs hg hr => by
      obtain ⟨hc, q, b, h1, h2, h3, h4⟩ := hs
      exact ⟨hc, q, b, h1, h2, h3, blk_own _ 26 (fun (_ : Unit) => b.1.cells) () X Y row h4 hg (fun r e => (hr r e).2)⟩) (ownFrom_below (Nat.le_refl _) (by omega)))
    ⟨⟨fun _ hb => absurd hb (by simp), bA2, bR2⟩, Nat.le_refl _, hB2⟩
    (fun x a' W => ∃ Bx, w.heap.size + 1 + 1 < Bx ∧ Blk W Bx x.1.cells 26 ∧ a' = { tmps := #[.agg #[.int .i64 a.size, a.B.val, a.E.val], .int .i64 l, .agg #[.int .i64 ro, .int .i64 eo], .pointer (some ⟨w.heap.size, 0, none⟩), undef, .pointer (some ⟨w.heap.size + 1, 0, none⟩), .pointer (some ⟨w.heap.size + 1 + 1, 0, none⟩), .pointer (some ⟨Bx, 0, none⟩), .int .i64 l, .agg #[.int .i64 a.size, a.B.val, a.E.val], .agg #[.int .i64 ro, .int .i64 eo], spanVal sa sb sc se, .func (.func 141) #[] #[.pointer (some ⟨w1.heap.size + 1, 0, none⟩), .pointer (some ⟨w1.heap.size, 0, none⟩)], x.1.val, undef, undef, undef, undef, undef, undef], defers := [] })
    (fun x a' _ X Y row hs hg hr => by
      obtain ⟨Bx, h1, h2, h3⟩ := hs
      exact ⟨Bx, h1, blk_own Bx 26 (fun (_ : Unit) => x.1.cells) () X Y row h2 hg (fun r e => (hr r e).2), h3⟩)
    ?assign ?body ?done ?stop
  case assign =>
    rintro lr pre x W K ⟨⟨hp, bA3, bR3⟩, hZ3, hB3⟩ hK
    simp only [Brk.val]
    gi_wp2
    exact hK _ _ ((KeepsOthers.alloc _ _).from _) ((Below.refl _ W).alloc hZ3 _) ⟨⟨hp, bA3.alloc _, bR3.alloc _⟩, by simp; omega, hB3.alloc hB3.size _⟩ ⟨W.heap.size, bR3.lt, Blk.new W _ _, rfl⟩
  case body =>
    rintro lr pre x a' W hlr ⟨r, hr⟩ ⟨⟨hp, bA3, bR3⟩, hZ3, hB3⟩ ⟨Bx, hBx, bX, rfl⟩ hlt
    have cA0 : W.cell? ⟨w.heap.size, 0, none⟩ = some (.int .i64 a.size) := bA3.cell 0
    have cA1 : W.cell? ⟨w.heap.size, 1, none⟩ = some a.B.val := bA3.cell 1
    have cA2 : W.cell? ⟨w.heap.size, 2, none⟩ = some a.E.val := bA3.cell 2
    have cX0 : W.cell? ⟨Bx, 0, none⟩ = some (.int .i64 x.1.law) := bX.cell 0
    have cX1 : W.cell? ⟨Bx, 1, none⟩ = some (.int .i64 x.1.a) := bX.cell 1
    have cX2 : W.cell? ⟨Bx, 2, none⟩ = some (.int .i64 x.1.b) := bX.cell 2
    have cX3 : W.cell? ⟨Bx, 3, none⟩ = some (.int .i64 x.1.c) := bX.cell 3
    have cX4 : W.cell? ⟨Bx, 4, none⟩ = some (.int .i64 x.1.e) := bX.cell 4
    have hlx := bX.lt
    have hc := holds_any a g x.1 (HF.out _ x.2) w.heap.size W (h.below hB3 (Nat.le_refl _)) hB3.size
    cases hh : a.alg.holds x.1
    · rw [hh] at hc
      have HC := hide hc
      have Hh := hide hh
      clear hc hh
      gi_wp2_with (refine ⟨trivial, ?_⟩; gi_at_call 64; refine (CallsIn.inRound lr (callsIn_wide.2 HC.out)).mono ?_; rintro e w' ⟨rfl, hb'⟩; have bX' := bX.below hb' hlx; have bR' := bR3.below hb' bR3.lt; have dX0 := bX'.cell 0; have dX1 := bX'.cell 1; have dX2 := bX'.cell 2; have dX3 := bX'.cell 3; have dX4 := bX'.cell 4; have dR0 := bR'.cell 0; have dR1 := bR'.cell 1; have dR2 := bR'.cell 2; have dR3 := bR'.cell 3; have dR4 := bR'.cell 4; have fR := bR'.frozen; simp [Brk.cells, Brk.none] at dX0 dX1 dX2 dX3 dX4 dR0 dR1 dR2 dR3 dR4)
      refine ⟨(keepsFrom_below hb' (Nat.le_refl _)).trans ((keeps5 w' (w.heap.size + 1 + 1) _ _ _ _ _).from _), ⟨rfl, pre, x, rfl, hp, Hh.out, bR'.set5 _ _ _ _ _⟩, below5 (hB3.trans (hb'.mono hB3.size)) (by omega) _ _ _ _ _⟩
    · rw [hh] at hc
      have HC := hide hc
      have Hh := hide hh
      clear hc hh
      gi_wp2_with (refine ⟨trivial, ?_⟩; gi_at_call 64; refine (CallsIn.inRound lr (callsIn_wide.2 HC.out)).mono ?_; rintro e w' ⟨rfl, hb'⟩)
      refine ⟨keepsFrom_below hb' (Nat.le_refl _), hb'.mono hZ3, ⟨fun b hb => ?_, bA3.below hb' bA3.lt, bR3.below hb' bR3.lt⟩, Nat.le_trans hZ3 hb'.size, hB3.trans (hb'.mono hB3.size)⟩
      rcases List.mem_append.1 hb with hb | hb
      · exact hp b hb
      · obtain rfl : b = x := by simpa using hb
        exact Hh.out
  case done =>
    rintro D ys W hD hS ⟨⟨hp, bA3, bR3⟩, hZ3, hB3⟩ hK
    have dR0 := bR3.cell 0
    have dR1 := bR3.cell 1
    have dR2 := bR3.cell 2
    have dR3 := bR3.cell 3
    have dR4 := bR3.cell 4
    have fR := bR3.frozen
    simp [Brk.cells, Brk.none] at dR0 dR1 dR2 dR3 dR4
    gi_wp2
    have hK' := (keeps5 W (w.heap.size + 1 + 1) (.int .i64 0) (.int .i64 0) (.int .i64 0) (.int .i64 0) (.int .i64 0)).same D _ hK rfl
    have bR4 := Blk.set5 bR3 (.int .i64 0) (.int .i64 0) (.int .i64 0) (.int .i64 0) (.int .i64 0)
    refine ⟨by simp, .inl ⟨_, _, rfl, run_takeDeferred hK', ?_⟩⟩
    have bR5 := bR4.kept (grownBy_putObj' _ D (.deferred none)) (fun e => by cases e; have := bR4.symm.trans hK'; cases this)
    have hall : a.alg.first (casesA l sb sc se sa) = Brk.none := first_of_all (fun b hb => by
      rw [← hS] at hb
      obtain ⟨y, hy, rfl⟩ := List.mem_map.1 hb
      exact hp y hy)
    refine ⟨Brk.none.val, ?_, by rw [hall], (below5 hB3 (by omega) _ _ _ _ _).trans (belowK_b (w := w) (Nat.le_refl _) _ D _ _ (by omega) hK' rfl rfl)⟩
    have d0 := bR5.cell 0
    have d1 := bR5.cell 1
    have d2 := bR5.cell 2
    have d3 := bR5.cell 3
    have d4 := bR5.cell 4
    unfold Ytjhkadffaephmaa.set5 at d0 d1 d2 d3 d4
    simp at d0 d1 d2 d3 d4
    simp [results, Try.results101, go_sem, d0, d1, d2, d3, d4, Brk.val, Brk.none]
  case stop =>
    rintro D c pre W hD hS ⟨⟨rfl, q, b, hq1, hq2, hq3, bR3⟩, hB3⟩ hK
    gi_wp2
    refine ⟨by simp, .inl ⟨_, _, rfl, run_takeDeferred hK, ?_⟩⟩
    have bR4 : Blk (W.putObj D (.deferred none)) (w.heap.size + 1 + 1) b.1.cells 26 := bR3.kept (grownBy_putObj' _ D (.deferred none)) (fun e => by
      cases e; have := bR3.symm.trans hK; cases this)
    refine ⟨b.1.val, ?_, ?_, hB3.trans (belowK_b (w := w) (Nat.le_refl _) W D _ _ (by omega) hK rfl rfl)⟩
    · have d0 := bR4.cell 0
      have d1 := bR4.cell 1
      have d2 := bR4.cell 2
      have d3 := bR4.cell 3
      have d4 := bR4.cell 4
      simp [Brk.cells] at d0 d1 d2 d3 d4
      simp [results, Try.results101, go_sem, d0, d1, d2, d3, d4, Brk.val]
    · have hpre := hS
      rw [hq1] at hpre
      rw [first_of_pre (q := q.map (·.1)) (b := b.1) (by simpa using hpre) (fun x hx => by obtain ⟨y, hy, rfl⟩ := List.mem_map.1 hx; exact hq2 y hy) hq3]

end Go.Proofs.Ytjhkadffaephmaa
