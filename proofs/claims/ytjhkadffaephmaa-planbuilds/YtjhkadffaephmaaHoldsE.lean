/-
  algebra.Holds.
-/
import Derived.Test.YtjhkadffaephmaaFirst
import Derived.Deep.RegionWith
import Derived.Deep.CutRange
namespace Go.Proofs.Ytjhkadffaephmaa
open Go.RowKit

def Alg.fitsB (a : Alg) (b : Brk) : Bool :=
  (decide (0 ≤ b.a) && decide (b.a < spanA a b.law)) && (decide (0 ≤ b.b) && decide (b.b < spanB a b.law)) && (decide (0 ≤ b.c) && decide (b.c < spanC a b.law)) && (decide (0 ≤ b.e) && decide (b.e < spanE a b.law))

theorem Alg.fits_of {a : Alg} {b : Brk} (l0 : 1 ≤ b.law) (l1 : b.law ≤ 9) (h : a.fitsB b = true) : a.Fits b := by
  simp only [Alg.fitsB, Bool.and_eq_true, decide_eq_true_eq] at h
  obtain ⟨⟨⟨⟨h1, h2⟩, h3, h4⟩, h5, h6⟩, h7, h8⟩ := h
  exact ⟨l0, l1, h1, h2, h3, h4, h5, h6, h7, h8⟩

/-- What Holds answers: the errno. -/
def Alg.holdsE (a : Alg) (b : Brk) : Int := if a.check ≠ 0 then a.check else if b.law < 1 ∨ 9 < b.law then 7 else if a.fitsB b = false then 3 else 0
/-- And the bool. -/
def Alg.holdsR (a : Alg) (b : Brk) : Bool := if a.holdsE b = 0 then a.holds b else false

theorem keep2 {w : World} {v0 v1 v2 u0 u1 u2 u3 u4 : Value} {t1 t2 : TypeId} : Blk ((w.alloc (.cells #[v0, v1, v2] t1)).alloc (.cells #[u0, u1, u2, u3, u4] t2)) w.heap.size #[v0, v1, v2] t1 := (Blk.new w _ _).alloc _

theorem keep2' {w : World} {v0 v1 v2 u0 u1 u2 u3 u4 : Value} {t1 t2 : TypeId} : Blk ((w.alloc (.cells #[v0, v1, v2] t1)).alloc (.cells #[u0, u1, u2, u3, u4] t2)) (w.heap.size + 1) #[u0, u1, u2, u3, u4] t2 := by
  have := Blk.new (w.alloc (.cells #[v0, v1, v2] t1)) #[u0, u1, u2, u3, u4] t2
  simpa using this

set_option maxHeartbeats 1000000 in
theorem holdsE_bad (a : AlgM) (b : Brk) (w : World) (h : a.In w.heap.size w) (hc : a.alg.check ≠ 0) :
    Calls Try.prog 23 #[a.val, b.val] w fun e w' => e = .returned (.tuple #[.bool false, .int .i64 a.alg.check]) ∧ Below w.heap.size w w' := by
  have hb0 := fun o1 o2 => frame_below w o1 o2 0
  have hck := fun W (hI : a.In w.heap.size W) (hn : w.heap.size ≤ W.heap.size) => check_any a w.heap.size W hI hn
  generalize a.alg.check = ck at *
  have hne : ((ck : Int) != 0) = true := by simpa using hc
  have HC := hide hck
  clear hck hc
  simp only [AlgM.val, Brk.val]
  go_enter Try.func23, Try.ntmps23
  go_wp2_with fail
  go_at_call 22
  refine (HC.out _ (h.below (hb0 _ _) (Nat.le_refl _)) (by simp; omega)).mono ?_
  rintro e w1 ⟨rfl, hb1⟩
  go_wp2
  go_ret2
  exact ⟨rfl, (hb0 _ _).trans (hb1.mono (by simp; omega))⟩

theorem below_dr (w : World) : Below w.heap.size w w.drew := ⟨rfl, rfl, rfl, Nat.le_refl _, fun _ _ => rfl⟩

theorem below_dr' (w : World) (o : Obj) : Below w.heap.size w (w.alloc o).drew := ((Below.refl _ w).alloc (Nat.le_refl _) _).trans ⟨rfl, rfl, rfl, Nat.le_refl _, fun _ _ => rfl⟩

theorem blk_pre {w1 w2 : World} {vs : Array Value} {t : TypeId} (h : Below ((w1.alloc (.cells vs t)).drew).heap.size ((w1.alloc (.cells vs t)).drew) w2) : Blk w2 w1.heap.size vs t :=
  (h.block w1.heap.size (show w1.heap.size < (w1.alloc (.cells vs t)).heap.size by simp)).trans (World.alloc_heap_new w1 _)

theorem names_no (w1 W : World) (l : Int) (hw : (Lit.int .i64 l).wf = true) (hl : ¬ (1 ≤ l ∧ l ≤ 9)) (hW : Below w1.heap.size w1 W) :
    Calls Try.prog 61 #[] W fun e w2 => ∃ b, e = .returned (.map (some b)) ∧
      (Instr.lookup 93 (.map (some b)) (.int .i64 l) true).run Try.prog w2 = .ok (.tuple #[.agg #[.int .i64 0, .int .i64 0], .bool false]) w2 ∧
      (∀ o, (Instr.lookup 93 (.map (some b)) (.int .i64 l) true).run Try.prog (w2.alloc o) = .ok (.tuple #[.agg #[.int .i64 0, .int .i64 0], .bool false]) (w2.alloc o)) ∧ Below w1.heap.size w1 w2 ∧ Below W.heap.size W w2 := by
  refine (names_any W).mono ?_
  rintro e w2 ⟨rfl, hm, hb⟩
  exact ⟨_, rfl, names_look_no hm hw hl, fun o => names_look_no (World.ownsMap.alloc hm o) hw hl, hW.trans (hb.mono hW.size), hb⟩

theorem names_yes (w1 W : World) (l : Int) (l0 : 1 ≤ l) (l1 : l ≤ 9) (hW : Below w1.heap.size w1 W) :
    Calls Try.prog 61 #[] W fun e w2 => ∃ b, e = .returned (.map (some b)) ∧
      (Instr.lookup 93 (.map (some b)) (.int .i64 l) true).run Try.prog w2 = .ok (.tuple #[.agg #[.int .i64 (routesOf l), .int .i64 (edgesOf l)], .bool true]) w2 ∧
      (∀ o, (Instr.lookup 93 (.map (some b)) (.int .i64 l) true).run Try.prog (w2.alloc o) = .ok (.tuple #[.agg #[.int .i64 (routesOf l), .int .i64 (edgesOf l)], .bool true]) (w2.alloc o)) ∧ Below w1.heap.size w1 w2 ∧ Below W.heap.size W w2 := by
  refine (names_any W).mono ?_
  rintro e w2 ⟨rfl, hm, hb⟩
  exact ⟨_, rfl, names_look_ok hm l0 l1, fun o => names_look_ok (World.ownsMap.alloc hm o) l0 l1, hW.trans (hb.mono hW.size), hb⟩

set_option maxHeartbeats 2000000 in
theorem holdsE_kind (a : AlgM) (b : Brk) (w : World) (h : a.In w.heap.size w) (hc : a.alg.check = 0) (hwf : (Lit.int .i64 b.law).wf = true) (hl : ¬ (1 ≤ b.law ∧ b.law ≤ 9)) :
    Calls Try.prog 23 #[a.val, b.val] w fun e w' => e = .returned (.tuple #[.bool false, .int .i64 7]) ∧ Below w.heap.size w w' := by
  have hb0 := fun o1 o2 => frame_below w o1 o2 0
  have hck := fun W (hI : a.In w.heap.size W) (hn : w.heap.size ≤ W.heap.size) => check_any a w.heap.size W hI hn
  rw [hc] at hck
  have HC := hide hck
  have Hl := hide hl
  have Hwf := hide hwf
  clear hck hc hl hwf
  obtain ⟨l, ba, bb, bc, be⟩ := b
  simp only [AlgM.val, Brk.val] at *
  go_enter Try.func23, Try.ntmps23
  go_wp2_with fail
  go_at_call 22
  refine (HC.out _ (h.below (hb0 _ _) (Nat.le_refl _)) (by simp; omega)).mono ?_
  rintro e w1 ⟨rfl, hb1⟩
  have bA1 := keep2.below hb1 (by simp; omega)
  have bX1 := keep2'.below hb1 (by simp)
  have hB1 := hide ((hb0 _ _).trans (hb1.mono (by simp; omega)))
  have cX0 := bX1.cell 0
  simp at cX0
  have hs1 : w.heap.size + 1 < w1.heap.size := bX1.lt
  have cX1 : ∀ o, (w1.alloc o).cell? ⟨w.heap.size + 1, 0, none⟩ = some (.int .i64 l) := fun o => (bX1.alloc o).cell 0
  clear hb1
  go_wp2_with fail
  go_region_with (go_at_call 61; refine (names_no w1 _ l Hwf.out Hl.out ?_).mono ?_; (first | exact below_dr w1 | exact below_dr' w1 _); rintro e w2 ⟨b, rfl, hl0, hl1, hb2, hbW⟩; (try (have nb := blk_pre hbW; have n0 := nb.cell 0; have n1 := nb.cell 1; have nf := nb.frozen; have nl := nb.lt; simp at n0 n1)); have bX2 := bX1.below hb2 bX1.lt; have hlt : w.heap.size + 1 < w2.heap.size := bX2.lt; have cX2 : w2.cell? ⟨w.heap.size + 1, 0, none⟩ = some (.int .i64 l) := bX2.cell 0; have cX3 : ∀ o, (w2.alloc o).cell? ⟨w.heap.size + 1, 0, none⟩ = some (.int .i64 l) := fun o => (bX2.alloc o).cell 0)
  all_goals
    go_wp2
    go_ret2
    first
    | exact ⟨rfl, (hB1.out.trans (hb2.mono hB1.out.size)).alloc (Nat.le_trans hB1.out.size hb2.size) _⟩
    | exact ⟨rfl, ((hB1.out.trans (hb2.mono hB1.out.size)).setCell (p := ⟨w1.heap.size, 0, none⟩) hB1.out.size _).setCell (p := ⟨w1.heap.size, 1, none⟩) hB1.out.size _⟩

end Go.Proofs.Ytjhkadffaephmaa
