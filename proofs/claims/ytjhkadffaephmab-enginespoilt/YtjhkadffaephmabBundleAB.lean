/-
  Our own texts, bundled: a claim holds few files.
-/
import Derived.Test.YtjhkadffaephmabBundleAA
import Derived.Maps.OwnSet
import Derived.RangeFuncNested
import Derived.RangeFuncBound
import Derived.RangeFuncCalls
import Derived.RangeFuncLeaves
import Derived.Shelf.Abstract
import Derived.Shelf.RegionOpen
import Derived.OwnWalkIn
import Derived.TacticsInMore
import Derived.LoopNIn
import Derived.LoopIn
/-
  algebra.namedByLaws: the map of what each law names; the look-ups in it.
-/
namespace Go.Proofs.Ytjhkadffaephmab
open Go.RowKit

/-- What an element of the map reads as. -/
def pairD (r e : Int) : DataW Unit := .agg [.lit (.int .i64 r), .lit (.int .i64 e)]

def pairElem : Value → Option (DataW Unit × List MemPlace)
  | .agg cs => match cs.toList with
    | [.int .i64 r, .int .i64 e] => some (pairD r e, [])
    | _ => none
  | _ => none

theorem pairElem_mk (r e : Int) : pairElem (.agg #[.int .i64 r, .int .i64 e]) = some (pairD r e, []) := rfl

theorem pairElem_inv {v : Value} {r e : Int} {ps : List MemPlace} (h : pairElem v = some (pairD r e, ps)) : v = .agg #[.int .i64 r, .int .i64 e] := by
  unfold pairElem at h
  split at h
  · next cs =>
    split at h
    · next r' e' hcs =>
      simp only [pairD, Option.some.injEq, Prod.mk.injEq, DataW.agg.injEq, List.cons.injEq, DataW.lit.injEq, Lit.int.injEq, true_and, and_true] at h
      obtain ⟨⟨rfl, rfl⟩, _⟩ := h
      rw [← Array.toArray_toList (xs := cs), hcs]
    · cases h
  · cases h

/-- The map as it reads. -/
def namesD : DataW Unit :=
  (((((((((DataW.map []).put (.int .i64 1) (pairD 2 0)).put (.int .i64 2) (pairD 3 0)).put (.int .i64 3) (pairD 2 0)).put (.int .i64 4) (pairD 1 0)).put (.int .i64 5) (pairD 1 0)).put (.int .i64 6) (pairD 0 1)).put (.int .i64 7) (pairD 1 1)).put (.int .i64 8) (pairD 1 1)).put (.int .i64 9) (pairD 2 1)

def edgesOf (l : Int) : Int := if 6 ≤ l then 1 else 0

theorem namesD_has (l : Int) : Maps.has namesD (.int .i64 l) = (decide (1 ≤ l) && decide (l ≤ 9)) := by
  by_cases h : 1 ≤ l ∧ l ≤ 9
  · have hc : l = 1 ∨ l = 2 ∨ l = 3 ∨ l = 4 ∨ l = 5 ∨ l = 6 ∨ l = 7 ∨ l = 8 ∨ l = 9 := by omega
    rcases hc with rfl | rfl | rfl | rfl | rfl | rfl | rfl | rfl | rfl <;> rfl
  · have hn : ∀ k : Int, 1 ≤ k → k ≤ 9 → Lit.int .i64 l ≠ Lit.int .i64 k := fun k h1 h2 e => by
      injection e with _ e; omega
    unfold namesD
    rw [Maps.has_put_other (hn 9 (by omega) (by omega)), Maps.has_put_other (hn 8 (by omega) (by omega)), Maps.has_put_other (hn 7 (by omega) (by omega)), Maps.has_put_other (hn 6 (by omega) (by omega)),
      Maps.has_put_other (hn 5 (by omega) (by omega)), Maps.has_put_other (hn 4 (by omega) (by omega)), Maps.has_put_other (hn 3 (by omega) (by omega)), Maps.has_put_other (hn 2 (by omega) (by omega)), Maps.has_put_other (hn 1 (by omega) (by omega))]
    have : (decide (1 ≤ l) && decide (l ≤ 9)) = false := by simp; omega
    rw [this]; rfl

theorem namesD_at (l : Int) (h0 : 1 ≤ l) (h1 : l ≤ 9) : namesD.atKey (.int .i64 l) (pairD 0 0) = pairD (routesOf l) (edgesOf l) := by
  have hc : l = 1 ∨ l = 2 ∨ l = 3 ∨ l = 4 ∨ l = 5 ∨ l = 6 ∨ l = 7 ∨ l = 8 ∨ l = 9 := by omega
  rcases hc with rfl | rfl | rfl | rfl | rfl | rfl | rfl | rfl | rfl <;> rfl

theorem law3 : Maps.Keyed Try.prog 3 := Maps.int_keyed Try.underlying3
theorem zeroE (w : World) : (zeroValue 177).run Try.prog w = .ok (.agg #[.int .i64 0, .int .i64 0]) w := by kernel_rfl

/-- The map that namedByLaws makes lies in block b. -/
def World.namesAt (w : World) (b : Nat) : Prop := w.ownsMap Try.prog 3 pairElem b 9 namesD

theorem wpList_insert_own {P : Program} (w : World) {ops : Array Oper} {rest : List Oper} {o : Oper} {a : Act} {Q : Exit → Act → World → Prop}
    (hg : o.guard = none) (m x v : Operand) (t : TypeId) (hop : o.op = Op.insert t m x v)
    (k e : TypeId) (K : Maps.Keyed P k) (ht : P.underlying t = some (.map k e)) (b n : Nat) (D : DataW Unit)
    (hm : a.eval m = .map (some b)) (hown : w.ownsMap P k pairElem b n D) (hn : n < maxLen) (key val : Value) (kl : Lit) (hx : a.eval x = key) (hv : a.eval v = val) (hkey : keyOf P k key = some kl)
    (d : DataW Unit) (hval : pairElem val = some (d, []))
    (hK : ∀ w', w'.ownsMap P k pairElem b (n + 1) (D.put kl d) → w.grownBy w' (some b) → wpList P ops Q rest (a.put o.dst undef) w') :
    wpList P ops Q (o :: rest) a w := by
  refine wpList_plain hg fun K' hK' => ?_
  obtain ⟨w', hrun, r1, r2⟩ := hown.update K ht hn hkey hval
  unfold Oper.wp
  simp [execOp, hop, hm, hx, hv, hrun, Result.andThen]
  exact hK' _ _ (hK w' r1 r2)

theorem keyInt {l : Int} (h : (Lit.int .i64 l).wf = true) : keyOf Try.prog 3 (.int .i64 l) = some (.int .i64 l) := Maps.keyOf_int_mk Try.underlying3 h

set_option maxRecDepth 100000 in
set_option maxHeartbeats 1000000 in
theorem names_any (w : World) :
    Calls Try.prog 142 #[] w fun e w' => e = .returned (.map (some w.heap.size)) ∧ World.namesAt w' w.heap.size ∧ Below w.heap.size w w' := by
  have hmm := @run_makeMap Try.prog
  have o0 := World.ownsMap_made w Try.prog 3 pairElem
  have hbig : 9 < maxLen := by unfold maxLen; omega
  have k1 := keyInt (l := 1) (by decide)
  have k2 := keyInt (l := 2) (by decide)
  have k3 := keyInt (l := 3) (by decide)
  have k4 := keyInt (l := 4) (by decide)
  have k5 := keyInt (l := 5) (by decide)
  have k6 := keyInt (l := 6) (by decide)
  have k7 := keyInt (l := 7) (by decide)
  have k8 := keyInt (l := 8) (by decide)
  have k9 := keyInt (l := 9) (by decide)
  go_enter Try.func142, Try.ntmps142
  go_wp2_with (first
    | (refine wpList_insert_own _ rfl _ _ _ 179 rfl 3 177 law3 Try.underlying179 w.heap.size 8 _ rfl o8 (by omega) _ _ _ rfl rfl k9 _ (pairElem_mk _ _) ?_; intro w9 o9 g9)
    | (refine wpList_insert_own _ rfl _ _ _ 179 rfl 3 177 law3 Try.underlying179 w.heap.size 7 _ rfl o7 (by omega) _ _ _ rfl rfl k8 _ (pairElem_mk _ _) ?_; intro w8 o8 g8)
    | (refine wpList_insert_own _ rfl _ _ _ 179 rfl 3 177 law3 Try.underlying179 w.heap.size 6 _ rfl o6 (by omega) _ _ _ rfl rfl k7 _ (pairElem_mk _ _) ?_; intro w7 o7 g7)
    | (refine wpList_insert_own _ rfl _ _ _ 179 rfl 3 177 law3 Try.underlying179 w.heap.size 5 _ rfl o5 (by omega) _ _ _ rfl rfl k6 _ (pairElem_mk _ _) ?_; intro w6 o6 g6)
    | (refine wpList_insert_own _ rfl _ _ _ 179 rfl 3 177 law3 Try.underlying179 w.heap.size 4 _ rfl o4 (by omega) _ _ _ rfl rfl k5 _ (pairElem_mk _ _) ?_; intro w5 o5 g5)
    | (refine wpList_insert_own _ rfl _ _ _ 179 rfl 3 177 law3 Try.underlying179 w.heap.size 3 _ rfl o3 (by omega) _ _ _ rfl rfl k4 _ (pairElem_mk _ _) ?_; intro w4 o4 g4)
    | (refine wpList_insert_own _ rfl _ _ _ 179 rfl 3 177 law3 Try.underlying179 w.heap.size 2 _ rfl o2 (by omega) _ _ _ rfl rfl k3 _ (pairElem_mk _ _) ?_; intro w3 o3 g3)
    | (refine wpList_insert_own _ rfl _ _ _ 179 rfl 3 177 law3 Try.underlying179 w.heap.size 1 _ rfl o1 (by omega) _ _ _ rfl rfl k2 _ (pairElem_mk _ _) ?_; intro w2 o2 g2)
    | (refine wpList_insert_own _ rfl _ _ _ 179 rfl 3 177 law3 Try.underlying179 w.heap.size 0 _ rfl o0 (by omega) _ _ _ rfl rfl k1 _ (pairElem_mk _ _) ?_; intro w1 o1 g1))
  go_ret
  have b0 : Below w.heap.size w (w.alloc (.map #[] 0)) := (Below.refl _ _).alloc (Nat.le_refl _) _
  have st : ∀ {W W' : World}, Below w.heap.size w W → W.grownBy W' (some w.heap.size) → Below w.heap.size w W' := fun hb hg => hb.grown hg hb.size (fun j hj => by cases hj; exact Nat.le_refl _)
  exact ⟨rfl, o9, st (st (st (st (st (st (st (st (st b0 g1) g2) g3) g4) g5) g6) g7) g8) g9⟩

end Go.Proofs.Ytjhkadffaephmab

/-
  algebra.spanOf, span.has.
-/
namespace Go.Proofs.Ytjhkadffaephmab
open Go.RowKit

def spanVal (x y z e : Int) : Value := .agg #[.int .i64 x, .int .i64 y, .int .i64 z, .int .i64 e]

set_option maxHeartbeats 1000000 in
theorem span_any (a : AlgM) (r e : Int) (w : World) (hr : r = 0 ∨ r = 1 ∨ r = 2 ∨ r = 3) (he : e = 0 ∨ e = 1) (hE : a.E.t.len ≤ maxLen) :
    Calls Try.prog 143 #[a.val, .agg #[.int .i64 r, .int .i64 e]] w fun en w' =>
      en = .returned (spanVal (if 0 < r then a.size else 1) (if 1 < r then a.size else 1) (if 2 < r then a.size else 1) (if 0 < e then a.E.t.len else 1)) ∧ Below w.heap.size w w' := by
  unfold maxLen at hE
  obtain ⟨size, B, E⟩ := a
  simp only [AlgM.val, Mat.val, spanVal]
  rcases hr with rfl | rfl | rfl | rfl <;> rcases he with rfl | rfl
  all_goals
    go_enter Try.func143, Try.ntmps143
    go_wp2
    refine bodyPost_ret (v := .agg #[_, _, _, _]) (by simp [results, Try.results143, go_sem]; exact ⟨rfl, rfl, rfl, rfl⟩) rfl ⟨by simp, ?_⟩
    exact ((((Below.refl _ _).alloc (Nat.le_refl _) _).alloc (by simp) _).alloc (by simp; omega) _).alloc (by simp; omega) _

set_option maxHeartbeats 1000000 in
theorem has_any (x y z e : Int) (b : Brk) (w : World) :
    Calls Try.prog 144 #[spanVal x y z e, b.val] w fun en w' =>
      en = .returned (.bool ((decide (0 ≤ b.a) && decide (b.a < x)) && (decide (0 ≤ b.b) && decide (b.b < y)) && (decide (0 ≤ b.c) && decide (b.c < z)) && (decide (0 ≤ b.e) && decide (b.e < e)))) ∧ Below w.heap.size w w' := by
  have hB : ∀ o1 o2, Below w.heap.size w ((w.alloc o1).alloc o2) := fun o1 o2 => ((Below.refl _ _).alloc (Nat.le_refl _) _).alloc (by simp) _
  obtain ⟨l, ba, bb, bc, be⟩ := b
  simp only [spanVal, Brk.val]
  generalize h1 : (decide (0 ≤ ba) && decide (ba < x)) = t1
  generalize h2 : (decide (0 ≤ bb) && decide (bb < y)) = t2
  generalize h3 : (decide (0 ≤ bc) && decide (bc < z)) = t3
  generalize h4 : (decide (0 ≤ be) && decide (be < e)) = t4
  have c1 : ∀ W, Calls Try.prog 186 #[.int .i64 ba, .int .i64 x] W fun e w' => e = .returned (.bool t1) ∧ w' = W := fun W => by rw [← h1]; exact below_any ba x W
  have c2 : ∀ W, Calls Try.prog 186 #[.int .i64 bb, .int .i64 y] W fun e w' => e = .returned (.bool t2) ∧ w' = W := fun W => by rw [← h2]; exact below_any bb y W
  have c3 : ∀ W, Calls Try.prog 186 #[.int .i64 bc, .int .i64 z] W fun e w' => e = .returned (.bool t3) ∧ w' = W := fun W => by rw [← h3]; exact below_any bc z W
  have c4 : ∀ W, Calls Try.prog 186 #[.int .i64 be, .int .i64 e] W fun e w' => e = .returned (.bool t4) ∧ w' = W := fun W => by rw [← h4]; exact below_any be e W
  have C1 := hide c1
  have C2 := hide c2
  have C3 := hide c3
  have C4 := hide c4
  clear h1 h2 h3 h4 c1 c2 c3 c4
  go_enter Try.func144, Try.ntmps144
  go_wp2_with fail
  go_at_call 186
  refine (C1.out _).mono ?_
  rintro e w' ⟨rfl, rfl⟩
  cases t1
  · go_wp2
    go_ret
    exact ⟨rfl, hB _ _⟩
  go_wp2_with fail
  go_at_call 186
  refine (C2.out _).mono ?_
  rintro e w' ⟨rfl, rfl⟩
  cases t2
  · go_wp2
    go_ret
    exact ⟨rfl, hB _ _⟩
  go_wp2_with fail
  go_at_call 186
  refine (C3.out _).mono ?_
  rintro e w' ⟨rfl, rfl⟩
  cases t3
  · go_wp2
    go_ret
    exact ⟨rfl, hB _ _⟩
  go_wp2_with fail
  go_at_call 186
  refine (C4.out _).mono ?_
  rintro e w' ⟨rfl, rfl⟩
  go_wp2
  go_ret
  exact ⟨by simp, hB _ _⟩

end Go.Proofs.Ytjhkadffaephmab

/-
  algebra.cases: the iterator over all that a law names.
-/
namespace Go.Proofs.Ytjhkadffaephmab
open Go.RowKit Go.Shelf
attribute [local go_sem] Oper.semAt_some

set_option maxRecDepth 100000 in
set_option maxHeartbeats 2000000 in
theorem cases1_in (F : Fence) (n : Nat) (h64 : F.fn 202) (hro : F.round = none) (_hn : 1 ≤ n) (lr bS bL n₀ : Nat) (l : Int) (sa sb sc se : Nat)
    (hmax : sa ≤ 100 ∧ sb ≤ 100 ∧ sc ≤ 100 ∧ se ≤ 100)
    (J Jx : List { b : Brk // b ∈ casesA l sb sc se sa } → World → Prop)
    (hY : ∀ pre x W, J pre W → pre.length < (casesA l sb sc se sa).length → YieldAt F (n - 1) Try.prog lr #[x.1.val] W fun e W' =>
      (e = .returned (.bool true) ∧ J (pre ++ [x]) W' ∧ Below n₀ W W') ∨ (e = .returned (.bool false) ∧ Jx (pre ++ [x]) W'))
    (W : World) (hbS : bS < n₀) (hbL : bL < n₀) (hL : W.cell? ⟨bL, 0, none⟩ = some (.int .i64 l))
    (c0 : W.cell? ⟨bS, 0, none⟩ = some (.int .i64 sa)) (c1 : W.cell? ⟨bS, 1, none⟩ = some (.int .i64 sb)) (c2 : W.cell? ⟨bS, 2, none⟩ = some (.int .i64 sc)) (c3 : W.cell? ⟨bS, 3, none⟩ = some (.int .i64 se))
    (h0 : J [] W) :
    CallsIn F n Try.prog 202 #[.func (.yield lr) #[] #[], .pointer (some ⟨bS, 0, none⟩), .pointer (some ⟨bL, 0, none⟩)] W fun e W' => (∃ v, e = .returned v) ∧
      ((∃ ys, ys.map (·.1) = casesA l sb sc se sa ∧ J ys W') ∨ (∃ pre, pre.map (·.1) <+: casesA l sb sc se sa ∧ Jx pre W')) := by
  obtain ⟨m0, m1, m2, m3⟩ := hmax
  have HY := hide hY
  clear hY
  refine callsIn_of_wp Try.func202 rfl h64 ?_ hro
  simp only [Try.ntmps202, List.size_toArray, List.length_cons, List.length_nil, Nat.reduceAdd, Nat.reduceSub, Array.replicate_succ, Array.replicate_zero, List.push_toArray, List.append_toArray, List.nil_append, List.cons_append]
  gi_wp2
  gi_loopw [10] (fun c wr => ∃ (x : Nat) (pre : List { b : Brk // b ∈ casesA l sb sc se sa }), x ≤ sa ∧ c = .int .i64 x ∧ Hid (pre.map (·.1) = casesTo l sb sc se x 0 0 0) ∧ Hid (Below n₀ W wr) ∧ J pre wr)
    (fun c _ => sa - (intOf c).toNat)
  case atStart => exact ⟨0, [], Nat.zero_le _, rfl, hide (by rw [casesTo_0]; rfl), hide (Below.refl _ _), h0⟩
  case round =>
    obtain ⟨x, pre, hx, rfl, Hp, HB, hJ⟩ := hrel
    by_cases hxs : x < sa
    · have d1 : wr.cell? ⟨bS, 1, none⟩ = some (.int .i64 sb) := (HB.out.cell (p := ⟨bS, 1, none⟩) hbS).trans c1
      gi_wp2
      gi_loopw [15] (fun c wr => ∃ (y : Nat) (pre : List { b : Brk // b ∈ casesA l sb sc se sa }), y ≤ sb ∧ c = .int .i64 y ∧ Hid (pre.map (·.1) = casesTo l sb sc se x y 0 0) ∧ Hid (Below n₀ W wr) ∧ J pre wr)
        (fun c _ => sb - (intOf c).toNat)
      case atStart => exact ⟨0, pre, Nat.zero_le _, rfl, Hp, HB, hJ⟩
      case round =>
        clear d1 hJ HB Hp pre
        obtain ⟨y, pre, hy, rfl, Hp, HB, hJ⟩ := hrel
        by_cases hys : y < sb
        · have d2 : wr.cell? ⟨bS, 2, none⟩ = some (.int .i64 sc) := (HB.out.cell (p := ⟨bS, 2, none⟩) hbS).trans c2
          gi_wp2
          gi_loopw [20] (fun c wr => ∃ (z : Nat) (pre : List { b : Brk // b ∈ casesA l sb sc se sa }), z ≤ sc ∧ c = .int .i64 z ∧ Hid (pre.map (·.1) = casesTo l sb sc se x y z 0) ∧ Hid (Below n₀ W wr) ∧ J pre wr)
            (fun c _ => sc - (intOf c).toNat)
          case atStart => exact ⟨0, pre, Nat.zero_le _, rfl, Hp, HB, hJ⟩
          case round =>
            clear d2 hJ HB Hp pre
            obtain ⟨z, pre, hz, rfl, Hp, HB, hJ⟩ := hrel
            by_cases hzs : z < sc
            · have d3 : wr.cell? ⟨bS, 3, none⟩ = some (.int .i64 se) := (HB.out.cell (p := ⟨bS, 3, none⟩) hbS).trans c3
              gi_wp2
              gi_loopw [25] (fun c wr => ∃ (e : Nat) (pre : List { b : Brk // b ∈ casesA l sb sc se sa }), e ≤ se ∧ c = .int .i64 e ∧ Hid (pre.map (·.1) = casesTo l sb sc se x y z e) ∧ Hid (Below n₀ W wr) ∧ J pre wr)
                (fun c _ => se - (intOf c).toNat)
              case atStart => exact ⟨0, pre, Nat.zero_le _, rfl, Hp, HB, hJ⟩
              case round =>
                clear d3 hJ HB Hp pre
                obtain ⟨e, pre, he, rfl, Hp, HB, hJ⟩ := hrel
                by_cases hes : e < se
                · have d4 : wr.cell? ⟨bL, 0, none⟩ = some (.int .i64 l) := (HB.out.cell (p := ⟨bL, 0, none⟩) hbL).trans hL
                  have hlen : pre.length < (casesA l sb sc se sa).length := by
                    have := casesTo_len l hxs hys hzs hes
                    rw [← Hp.out, List.length_map] at this
                    exact this
                  obtain ⟨fn, tmps, assign, body, hy0, hR⟩ := HY.out pre ⟨⟨l, x, y, z, e⟩, casesTo_mem l hxs hys hzs hes⟩ wr hJ hlen
                  dsimp only [Brk.val] at hy0
                  have HR := hide hR
                  clear hR hlen
                  gi_wp2
                  refine HR.out.mono ?_
                  rintro en W3 (⟨rfl, hJ3, hk3⟩ | ⟨rfl, hJx3⟩)
                  · have HB3 := hide (HB.out.trans hk3)
                    clear hk3 HR hy0 d4
                    gi_wp2
                    go_roundw
                    case rel => exact ⟨e + 1, _, by omega, by go_num, hide (by rw [casesTo_snoc, ← Hp.out]; simp), HB3, hJ3⟩
                    case measure => simp [intOf]; omega
                  · clear HR hy0 d4
                    gi_wp2
                    refine bodyPost_ret (results_none rfl _ _ _) rfl ?_
                    refine ⟨⟨_, rfl⟩, .inr ⟨_, ?_, hJx3⟩⟩
                    have hpr := casesTo_pre l hxs hys hzs (show e + 1 ≤ se from hes)
                    rw [casesTo_snoc, ← Hp.out] at hpr
                    simpa using hpr
                · obtain rfl : e = se := by omega
                  have Hp' := hide (Hp.out.trans (casesTo_e l sb sc e x y z))
                  gi_wp2
                  go_roundw
                  case rel => exact ⟨z + 1, pre, by omega, by go_num, Hp', HB, hJ⟩
                  case measure => simp [intOf]; omega
            · obtain rfl : z = sc := by omega
              have Hp' := hide (Hp.out.trans (casesTo_c l sb z se x y))
              gi_wp2
              go_roundw
              case rel => exact ⟨y + 1, pre, by omega, by go_num, Hp', HB, hJ⟩
              case measure => simp [intOf]; omega
        · obtain rfl : y = sb := by omega
          have Hp' := hide (Hp.out.trans (casesTo_b l y sc se x))
          gi_wp2
          go_roundw
          case rel => exact ⟨x + 1, pre, by omega, by go_num, Hp', HB, hJ⟩
          case measure => simp [intOf]; omega
    · obtain rfl : x = sa := by omega
      have Hp' := hide (Hp.out.trans (casesTo_a l sb sc se x))
      gi_wp2
      go_end0
      exact ⟨⟨_, rfl⟩, .inl ⟨pre, Hp'.out, hJ⟩⟩

end Go.Proofs.Ytjhkadffaephmab
