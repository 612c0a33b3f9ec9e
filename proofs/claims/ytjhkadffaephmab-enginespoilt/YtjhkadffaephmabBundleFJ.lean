/-
  Our own texts, bundled: a claim holds few files.
-/
import Derived.Test.YtjhkadffaephmabBundleFI
import Derived.Test.YtjhkadffaephmabBundleBC
/-
  engine.twice.
-/
namespace Go.Proofs.Ytjhkadffaephmab
set_option maxRecDepth 100000
open Go.RowKit

theorem Try.infoMail : (Try.prog.info? 52).map (fun i => (i.zero.map (fun z => z.cells.size), i.size, i.bytes)) = some (some 3, 3, 32) := by kernel_rfl

/-- The append of one mail, run ahead. -/
theorem append_mail (W : World) (base : Nat) (V : Value) (l : List Mail) (m : Mail) (ho : W.ownsRow base 52 3 V l.length (mailsL l)) (hk : l.length ≤ 200) (hC : base ≤ W.heap.size) (ty : TypeId) :
    ∃ g cap W4, (Builtin.append_ #[43, 43] ty #[V, .slice (some ⟨W.heap.size, 0, none⟩) 1 1]).run Try.prog (W.alloc (.cells #[.int .i64 m.F, .int .i64 m.T, .string ⟨m.b.toArray⟩] 52)).drew = .ok (.slice (some ⟨g, 0, none⟩) (l.length + 1) cap) W4 ∧
      W4.ownsRow base 52 3 (.slice (some ⟨g, 0, none⟩) (l.length + 1) cap) (l ++ [m]).length (mailsL (l ++ [m])) ∧ W.grownBy W4 V.ownBlock ∧ (V.ownBlock = some g ∨ W.heap.size ≤ g) := by
  obtain ⟨i0, hi0, hq⟩ : ∃ i, Try.prog.info? 52 = some i ∧ (i.zero.map (fun z => z.cells.size), i.size, i.bytes) = (some 3, 3, 32) := Option.map_eq_some_iff.1 Try.infoMail
  obtain ⟨z, hz, hzs⟩ : ∃ z, i0.zero = some z ∧ z.cells.size = 3 := by
    have := congrArg Prod.fst hq
    simpa [Option.map_eq_some_iff] using this
  have hsz : i0.size = 3 := congrArg (fun x => x.2.1) hq
  have hby : i0.bytes = 32 := congrArg (fun x => x.2.2) hq
  have hb0 : (W.alloc (.cells #[.int .i64 m.F, .int .i64 m.T, .string ⟨m.b.toArray⟩] 52)).drew.heap.size = W.heap.size + 1 := by
    show (W.alloc _).heap.size = _
    simp
  have ho2 := (ho.alloc (.cells #[.int .i64 m.F, .int .i64 m.T, .string ⟨m.b.toArray⟩] 52)).drew
  obtain ⟨g, cap, w', hr, h2, h3, h4, h5⟩ := run_append_lies (P := Try.prog) (W.alloc (.cells #[.int .i64 m.F, .int .i64 m.T, .string ⟨m.b.toArray⟩] 52)).drew 43 ty base 52 i0 z 3 32 Try.underlying43 hi0 hz hsz hby hzs (by decide) V l.length _ ho2 ⟨W.heap.size, 0, none⟩ 1 1 [.int .i64 m.F, .int .i64 m.T, .string ⟨m.b.toArray⟩] rfl (World.news_of_block (cs := #[.int .i64 m.F, .int .i64 m.T, .string ⟨m.b.toArray⟩]) (show (W.alloc (.cells #[.int .i64 m.F, .int .i64 m.T, .string ⟨m.b.toArray⟩] 52)).drew.heap[W.heap.size]? = _ from heap_alloc_new W _)) (by simp [Value.oneCell']) (by decide) (by unfold maxLen; omega) (by omega) (by omega) _ rfl
  refine ⟨g, cap, w', hr, ?_, ?_, ?_⟩
  · rw [mailsL_append, List.length_append]
    exact h2
  · exact ⟨h3.os, h3.tape, h3.output, by have := h3.size; omega, fun k hk' hne => (h3.block k (by omega) hne).trans ((World.grownBy_alloc W (.cells #[.int .i64 m.F, .int .i64 m.T, .string ⟨m.b.toArray⟩] 52) none).block k hk' (by simp))⟩
  · rcases h4 with h4 | h4
    · exact Or.inl h4
    · right; omega

/-- What stands at a place of the bag. -/
theorem mailsL_get : ∀ (l : List Mail) (i : Nat), i < l.length → (mailsL l)[i * 3]? = some (.int .i64 (l.getD i noMail).F) ∧ (mailsL l)[i * 3 + 1]? = some (.int .i64 (l.getD i noMail).T) ∧ (mailsL l)[i * 3 + 2]? = some (.string ⟨(l.getD i noMail).b.toArray⟩)
  | [], i, h => absurd h (Nat.not_lt_zero _)
  | m :: l, 0, _ => ⟨rfl, rfl, rfl⟩
  | m :: l, i + 1, h => by
    have ih := mailsL_get l i (by simpa using h)
    have e : mailsL (m :: l) = [.int .i64 m.F, .int .i64 m.T, .string ⟨m.b.toArray⟩] ++ mailsL l := rfl
    have g : (m :: l).getD (i + 1) noMail = l.getD i noMail := rfl
    rw [e, g, show (i + 1) * 3 = i * 3 + 3 by omega]
    refine ⟨?_, ?_, ?_⟩
    · rw [List.getElem?_append_right (by simp)]; exact ih.1
    · rw [List.getElem?_append_right (by simp)]; exact ih.2.1
    · rw [List.getElem?_append_right (by simp)]; exact ih.2.2
theorem Live.mail {base P N : Nat} {e : Eng} {Bv : Value} {y : Lay} {W : World} (h : Live base P N e Bv y W) {i : Nat} (hi : i < e.bag.length) :
    ∃ g cap : Nat, Bv = .slice (some ⟨g, 0, none⟩) e.bag.length cap ∧ W.cell? ⟨g, i * 3, none⟩ = some (.int .i64 (e.bag.getD i noMail).F) ∧ W.cell? ⟨g, i * 3 + 1, none⟩ = some (.int .i64 (e.bag.getD i noMail).T) ∧ W.cell? ⟨g, i * 3 + 2, none⟩ = some (.string ⟨(e.bag.getD i noMail).b.toArray⟩) := by
  rcases Go.Joins.ownsRow_forms h.bag with ⟨_, e0⟩ | ⟨g, cap, e1⟩
  · omega
  · have hb := h.bag
    rw [e1] at hb
    obtain ⟨m0, m1, m2⟩ := mailsL_get e.bag i hi
    exact ⟨g, cap, e1, by rw [hb.cellAt _ (by omega)]; exact m0, by rw [hb.cellAt _ (by omega)]; exact m1, by rw [hb.cellAt _ (by omega)]; exact m2⟩

end Go.Proofs.Ytjhkadffaephmab

/-
  engine.twice.
-/
namespace Go.Proofs.Ytjhkadffaephmab
set_option maxRecDepth 100000
open Go.RowKit

set_option maxHeartbeats 4000000 in
theorem twice_ok (base P N i : Nat) (e : Eng) (Bv : Value) (y : Lay) (w : World) (hL : Live base P N e Bv y w) (hi : i < e.bag.length) (hm : e.bag.length < 120) :
    Calls Try.prog 183 #[.pointer (some ⟨P, 0, none⟩), .int .i64 i] w fun r w' => r = .returned (.int .i64 0) ∧ (∃ Bv', Live base P N (e.twice i) Bv' y w') ∧ Below base w w' := by
  have hbw : base ≤ w.heap.size := Nat.le_of_lt (Nat.lt_of_le_of_lt hL.lp hL.head.lt)
  obtain ⟨g, cap, hBv, m0, m1, m2⟩ := hL.mail hi
  obtain ⟨g', cap', W4, hrun, hown, hgr, hat⟩ := append_mail w base Bv e.bag (e.bag.getD i noMail) hL.bag (by omega) hbw 43
  have hset := hL.setBag hgr hown (fun q hq => by
    have : q = g' := by simpa [Value.ownBlock] using hq.symm
    subst this; exact hat)
  have HF := hide (And.intro (Exists.intro (p := fun Bv' => Live base P N (e.twice i) Bv' y (W4.setCell ⟨P, 1, none⟩ (.slice (some ⟨g', 0, none⟩) (e.bag.length + 1) cap'))) _ hset) ((grown_below hgr (fun q hq => (hL.bag.lt q hq).1) hbw).setCell (p := ⟨P, 1, none⟩) hL.lp (.slice (some ⟨g', 0, none⟩) (e.bag.length + 1) cap')))
  have hP : Bv.ownBlock ≠ some P := fun e1 => (hL.bv P e1).1 rfl
  have hh4 : Blk W4 P #[.slice (some ⟨y.G, 0, none⟩) N y.gc, Bv] 45 := hL.head.kept hgr (fun e1 => hP e1.symm)
  have p1 := hL.head.cell 1
  have p1a : ∀ o, (w.alloc o).cell? ⟨P, 1, none⟩ = some Bv := fun o => by have := (hL.head.alloc o).cell 1; simpa using this
  have p4 := hh4.cell 1
  have pf := hh4.frozen 1
  have hglt : g < w.heap.size := (hL.bag.lt g (by rw [hBv]; rfl)).2
  have n0 : ∀ o, (w.alloc o).cell? ⟨g, i * 3, none⟩ = some (.int .i64 (e.bag.getD i noMail).F) := fun o => by rw [((Below.refl w.heap.size w).alloc (Nat.le_refl _) o).cell (p := ⟨g, i * 3, none⟩) hglt]; exact m0
  simp at p1 p4
  rw [hBv] at p1 p1a p4 hrun
  generalize e.bag.getD i noMail = m at *
  generalize e.bag.length = len at *
  have R1 := hide hrun
  have hil : (i : Int) < (len : Int) := by omega
  have hm' : ¬ (120 : Int) ≤ (len : Int) := by omega
  clear hrun hL hown hgr hat hset hBv hh4 hP hbw
  go_enter Try.func183, Try.ntmps183
  go_wp2
  go_region_law (refine step_append_run rfl (.tmp 15) (.tmp 23) 43 rfl (.slice (some ⟨g, 0, none⟩) len cap) (.slice (some ⟨w.heap.size, 0, none⟩) 1 1) (by simp [Act.eval]) (by simp [Act.eval]) (.slice (some ⟨g', 0, none⟩) (len + 1) cap') W4 R1.out ?_)
  all_goals
    go_wp2
    go_ret
    exact ⟨rfl, HF.out⟩

end Go.Proofs.Ytjhkadffaephmab
