/-
  algebra.namedByLaws: the map of what each law names; the look-ups in it.
-/
import Derived.Test.YtjhkadffaephmaaHolds
import Derived.Maps.OwnSet
namespace Go.Proofs.Ytjhkadffaephmaa
open Go.RowKit

/-- What an element of the map reads as. -/
def pairD (r e : Int) : DataW Unit := .agg [.lit (.int .i64 r), .lit (.int .i64 e)]

def pairElem : Value → Option (DataW Unit × List MemPlace)
  | .agg cs => match cs.toList with
    | [.int .i64 r, .int .i64 e] => some (pairD r e, [])
    | _ => none
  | _ => none

theorem pairElem_mk (r e : Int) : pairElem (.agg #[.int .i64 r, .int .i64 e]) = some (pairD r e, []) := rfl

theorem pairElem_inv {v : Value} {r e : Int} {ps : List MemPlace} (h : pairElem v = some (pairD r e, ps)) : v = .agg #[.int .i64 r, .int .i64 e] := by
  unfold pairElem at h
  split at h
  · next cs =>
    split at h
    · next r' e' hcs =>
      simp only [pairD, Option.some.injEq, Prod.mk.injEq, DataW.agg.injEq, List.cons.injEq, DataW.lit.injEq, Lit.int.injEq, true_and, and_true] at h
      obtain ⟨⟨rfl, rfl⟩, _⟩ := h
      rw [← Array.toArray_toList (xs := cs), hcs]
    · cases h
  · cases h

/-- The map as it reads. -/
def namesD : DataW Unit :=
  (((((((((DataW.map []).put (.int .i64 1) (pairD 2 0)).put (.int .i64 2) (pairD 3 0)).put (.int .i64 3) (pairD 2 0)).put (.int .i64 4) (pairD 1 0)).put (.int .i64 5) (pairD 1 0)).put (.int .i64 6) (pairD 0 1)).put (.int .i64 7) (pairD 1 1)).put (.int .i64 8) (pairD 1 1)).put (.int .i64 9) (pairD 2 1)

def edgesOf (l : Int) : Int := if 6 ≤ l then 1 else 0

theorem namesD_has (l : Int) : Maps.has namesD (.int .i64 l) = (decide (1 ≤ l) && decide (l ≤ 9)) := by
  by_cases h : 1 ≤ l ∧ l ≤ 9
  · have hc : l = 1 ∨ l = 2 ∨ l = 3 ∨ l = 4 ∨ l = 5 ∨ l = 6 ∨ l = 7 ∨ l = 8 ∨ l = 9 := by omega
    rcases hc with rfl | rfl | rfl | rfl | rfl | rfl | rfl | rfl | rfl <;> rfl
  · have hn : ∀ k : Int, 1 ≤ k → k ≤ 9 → Lit.int .i64 l ≠ Lit.int .i64 k := fun k h1 h2 e => by
      injection e with _ e; omega
    unfold namesD
    rw [Maps.has_put_other (hn 9 (by omega) (by omega)), Maps.has_put_other (hn 8 (by omega) (by omega)), Maps.has_put_other (hn 7 (by omega) (by omega)), Maps.has_put_other (hn 6 (by omega) (by omega)),
      Maps.has_put_other (hn 5 (by omega) (by omega)), Maps.has_put_other (hn 4 (by omega) (by omega)), Maps.has_put_other (hn 3 (by omega) (by omega)), Maps.has_put_other (hn 2 (by omega) (by omega)), Maps.has_put_other (hn 1 (by omega) (by omega))]
    have : (decide (1 ≤ l) && decide (l ≤ 9)) = false := by simp; omega
    rw [this]; rfl

theorem namesD_at (l : Int) (h0 : 1 ≤ l) (h1 : l ≤ 9) : namesD.atKey (.int .i64 l) (pairD 0 0) = pairD (routesOf l) (edgesOf l) := by
  have hc : l = 1 ∨ l = 2 ∨ l = 3 ∨ l = 4 ∨ l = 5 ∨ l = 6 ∨ l = 7 ∨ l = 8 ∨ l = 9 := by omega
  rcases hc with rfl | rfl | rfl | rfl | rfl | rfl | rfl | rfl | rfl <;> rfl

theorem law3 : Maps.Keyed Try.prog 3 := Maps.int_keyed Try.underlying3
theorem zeroE (w : World) : (zeroValue 91).run Try.prog w = .ok (.agg #[.int .i64 0, .int .i64 0]) w := by kernel_rfl

/-- The map that namedByLaws makes lies in block b. -/
def World.namesAt (w : World) (b : Nat) : Prop := w.ownsMap Try.prog 3 pairElem b 9 namesD

theorem wpList_insert_own {P : Program} (w : World) {ops : Array Oper} {rest : List Oper} {o : Oper} {a : Act} {Q : Exit → Act → World → Prop}
    (hg : o.guard = none) (m x v : Operand) (t : TypeId) (hop : o.op = Op.insert t m x v)
    (k e : TypeId) (K : Maps.Keyed P k) (ht : P.underlying t = some (.map k e)) (b n : Nat) (D : DataW Unit)
    (hm : a.eval m = .map (some b)) (hown : w.ownsMap P k pairElem b n D) (hn : n < maxLen) (key val : Value) (kl : Lit) (hx : a.eval x = key) (hv : a.eval v = val) (hkey : keyOf P k key = some kl)
    (d : DataW Unit) (hval : pairElem val = some (d, []))
    (hK : ∀ w', w'.ownsMap P k pairElem b (n + 1) (D.put kl d) → w.grownBy w' (some b) → wpList P ops Q rest (a.put o.dst undef) w') :
    wpList P ops Q (o :: rest) a w := by
  refine wpList_plain hg fun K' hK' => ?_
  obtain ⟨w', hrun, r1, r2⟩ := hown.update K ht hn hkey hval
  unfold Oper.wp
  simp [execOp, hop, hm, hx, hv, hrun, Result.andThen]
  exact hK' _ _ (hK w' r1 r2)

theorem keyInt {l : Int} (h : (Lit.int .i64 l).wf = true) : keyOf Try.prog 3 (.int .i64 l) = some (.int .i64 l) := Maps.keyOf_int_mk Try.underlying3 h

set_option maxRecDepth 100000 in
set_option maxHeartbeats 1000000 in
theorem names_any (w : World) :
    Calls Try.prog 61 #[] w fun e w' => e = .returned (.map (some w.heap.size)) ∧ World.namesAt w' w.heap.size ∧ Below w.heap.size w w' := by
  have hmm := @run_makeMap Try.prog
  have o0 := World.ownsMap_made w Try.prog 3 pairElem
  have hbig : 9 < maxLen := by unfold maxLen; omega
  have k1 := keyInt (l := 1) (by decide)
  have k2 := keyInt (l := 2) (by decide)
  have k3 := keyInt (l := 3) (by decide)
  have k4 := keyInt (l := 4) (by decide)
  have k5 := keyInt (l := 5) (by decide)
  have k6 := keyInt (l := 6) (by decide)
  have k7 := keyInt (l := 7) (by decide)
  have k8 := keyInt (l := 8) (by decide)
  have k9 := keyInt (l := 9) (by decide)
  go_enter Try.func61, Try.ntmps61
  go_wp2_with (first
    | (refine wpList_insert_own _ rfl _ _ _ 93 rfl 3 91 law3 Try.underlying93 w.heap.size 8 _ rfl o8 (by omega) _ _ _ rfl rfl k9 _ (pairElem_mk _ _) ?_; intro w9 o9 g9)
    | (refine wpList_insert_own _ rfl _ _ _ 93 rfl 3 91 law3 Try.underlying93 w.heap.size 7 _ rfl o7 (by omega) _ _ _ rfl rfl k8 _ (pairElem_mk _ _) ?_; intro w8 o8 g8)
    | (refine wpList_insert_own _ rfl _ _ _ 93 rfl 3 91 law3 Try.underlying93 w.heap.size 6 _ rfl o6 (by omega) _ _ _ rfl rfl k7 _ (pairElem_mk _ _) ?_; intro w7 o7 g7)
    | (refine wpList_insert_own _ rfl _ _ _ 93 rfl 3 91 law3 Try.underlying93 w.heap.size 5 _ rfl o5 (by omega) _ _ _ rfl rfl k6 _ (pairElem_mk _ _) ?_; intro w6 o6 g6)
    | (refine wpList_insert_own _ rfl _ _ _ 93 rfl 3 91 law3 Try.underlying93 w.heap.size 4 _ rfl o4 (by omega) _ _ _ rfl rfl k5 _ (pairElem_mk _ _) ?_; intro w5 o5 g5)
    | (refine wpList_insert_own _ rfl _ _ _ 93 rfl 3 91 law3 Try.underlying93 w.heap.size 3 _ rfl o3 (by omega) _ _ _ rfl rfl k4 _ (pairElem_mk _ _) ?_; intro w4 o4 g4)
    | (refine wpList_insert_own _ rfl _ _ _ 93 rfl 3 91 law3 Try.underlying93 w.heap.size 2 _ rfl o2 (by omega) _ _ _ rfl rfl k3 _ (pairElem_mk _ _) ?_; intro w3 o3 g3)
    | (refine wpList_insert_own _ rfl _ _ _ 93 rfl 3 91 law3 Try.underlying93 w.heap.size 1 _ rfl o1 (by omega) _ _ _ rfl rfl k2 _ (pairElem_mk _ _) ?_; intro w2 o2 g2)
    | (refine wpList_insert_own _ rfl _ _ _ 93 rfl 3 91 law3 Try.underlying93 w.heap.size 0 _ rfl o0 (by omega) _ _ _ rfl rfl k1 _ (pairElem_mk _ _) ?_; intro w1 o1 g1))
  go_ret
  have b0 : Below w.heap.size w (w.alloc (.map #[] 0)) := (Below.refl _ _).alloc (Nat.le_refl _) _
  have st : ∀ {W W' : World}, Below w.heap.size w W → W.grownBy W' (some w.heap.size) → Below w.heap.size w W' := fun hb hg => hb.grown hg hb.size (fun j hj => by cases hj; exact Nat.le_refl _)
  exact ⟨rfl, o9, st (st (st (st (st (st (st (st (st b0 g1) g2) g3) g4) g5) g6) g7) g8) g9⟩

end Go.Proofs.Ytjhkadffaephmaa
