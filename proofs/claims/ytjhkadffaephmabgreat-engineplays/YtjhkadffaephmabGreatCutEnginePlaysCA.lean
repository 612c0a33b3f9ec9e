/-
  Our own texts, bundled: a claim holds few files.
-/
import Derived.Test.YtjhkadffaephmabGreatCutEnginePlaysBJ
import Derived.Test.YtjhkadffaephmabGreatCutEnginePlaysBC
import Derived.Lib.AppendZeros
import Derived.Test.YtjhkadffaephmabGreatCutEnginePlaysBE
/-
 signpostref.copied.
-/
namespace Go.Proofs.YtjhkadffaephmabGreat
set_option maxRecDepth 100000
open Go.RowKit

/-- While a router is copied. -/
structure RIn (w : World) (x : EngM) (N i : Nat) (y : Lay) (V : Value) (H0 b r5 : Nat) (W : World) : Prop where
 below : Below w.heap.size w W
 bx : Blk W w.heap.size x.cells 31
 res : Blk W (w.heap.size + 1) #[.slice none 0 0, .slice none 0 0] 31
 out : Blk W (w.heap.size + 2) #[V, .slice none 0 0] 31
 cop : RCop w.heap.size H0 N x.eng y V i W
 row : ∃ cs, Blk W b cs 3
 cells : ∀ j, j < N → W.cell? ⟨b, j, none⟩ = some (.int .i64 (x.eng.R i j))
 lo : H0 ≤ b ∧ b < r5 ∧ w.heap.size ≤ H0
theorem RIn.keep {w : World} {x : EngM} {N i : Nat} {y : Lay} {V : Value} {H0 b r5 : Nat} {W W' : World} (h : RIn w x N i y V H0 b r5 W) (hb : Below W.heap.size W W') : RIn w x N i y V H0 b r5 W' := by
 obtain ⟨cs, hr⟩ := h.row
 exact ⟨h.below.trans (hb.mono h.below.size), h.bx.below hb h.bx.lt, h.res.below hb h.res.lt, h.out.below hb h.out.lt, h.cop.below hb, ⟨cs, hr.below hb hr.lt⟩, fun j hj => by rw [hb.cell (p := ⟨b, j, none⟩) hr.lt]; exact h.cells j hj, h.lo⟩
/-- A block of rows grows. -/
theorem RIn.grown {w : World} {x : EngM} {N i : Nat} {y : Lay} {V : Value} {H0 b r5 : Nat} {W W' : World} (h : RIn w x N i y V H0 b r5 W) {S : Value} {q : Nat} {xs : List Value} (ho : W.ownsRow r5 32 1 S q xs) (hg : W.grownBy W' S.ownBlock) : RIn w x N i y V H0 b r5 W' := by
 have hr5 : ∀ g, S.ownBlock = some g → r5 ≤ g := fun g hg' => (ho.lt g hg').1
 have ne : ∀ b' cs t, Blk W b' cs t → t ≠ 32 → some b' ≠ S.ownBlock := fun b' cs t hb' ht hv => own_ne ho hb' (Ne.symm ht) hv.symm rfl
 have hlo := h.lo
 obtain ⟨cs, hr⟩ := h.row
 refine ⟨?_, h.bx.kept hg (ne _ _ _ h.bx (by decide)), h.res.kept hg (ne _ _ _ h.res (by decide)), h.out.kept hg (ne _ _ _ h.out (by decide)), h.cop.kept hg (fun b' cs' t hlt hb' _ hv => by have := hr5 b' hv.symm; omega) ?_, ⟨cs, hr.kept hg (ne _ _ _ hr (by decide))⟩, fun j hj => by rw [kept_cell hr hg (ne _ _ _ hr (by decide))]; exact h.cells j hj, h.lo⟩
 ·exact h.below.trans (grown_below hg (fun g hg' => by have := hr5 g hg'; omega) h.below.size)
 ·refine h.cop.rtrs.kept hg ?_
  cases hv : V.ownBlock with
  | none => exact Or.inl rfl
  | some k =>
   refine Or.inr (fun e => ?_)
   obtain ⟨_, h2⟩ := h.cop.rtrs
   rcases h2 with ⟨e0, _⟩ | ⟨g', cap, cur, e1, _, hk, _⟩
   ·rw [e0] at hv; cases hv
   ·rw [e1] at hv
    have : g' = k := by simpa [Value.ownBlock] using hv
    subst this
    exact ne g' cur _ hk (by decide) e
/-- A store into the router's box. -/
theorem RIn.set {w : World} {x : EngM} {N i : Nat} {y : Lay} {V : Value} {H0 b r5 : Nat} {W : World} (h : RIn w x N i y V H0 b r5 W) {cs : Array Value} (hp : Blk W r5 cs 59) (hV : V.ownBlock ≠ some r5) (j : Nat) (v : Value) : RIn w x N i y V H0 b r5 (W.setCell ⟨r5, j, none⟩ v) := by
 obtain ⟨cs', hr⟩ := h.row
 have hlo := h.lo
 exact ⟨h.below.setCell (p := ⟨r5, j, none⟩) (by show w.heap.size ≤ r5; omega) _, h.bx.other (type_ne h.bx hp (by decide)) _ _, h.res.other (type_ne h.res hp (by decide)) _ _, h.out.other (type_ne h.out hp (by decide)) _ _, h.cop.set hp (by decide) (by decide) hV v, ⟨cs', hr.other (type_ne hr hp (by decide)) _ _⟩, fun j' hj => by rw [cell_other (type_ne hr hp (by decide))]; exact h.cells j' hj, h.lo⟩

/-- While one row more is told. -/
structure CopD (w : World) (x : EngM) (N i : Nat) (y : Lay) (V : Value) (H0 b c r5 : Nat) (sz : Nat) (s : Value) (q : Nat) (b14 b16 : Bool) (W : World) : Prop where
 inn : RIn w x N i y V H0 b r5 W
 sz : sz ≤ W.heap.size
 told : b14 = false → RTold r5 N (x.eng.told i) (x.eng.D i) s q W
 old : b16 = false → Blk W r5 #[.slice (some ⟨b, 0, none⟩) N c, s] 59
 new : b16 = true → ∃ g cap, Blk W r5 #[.slice (some ⟨b, 0, none⟩) N c, .slice (some ⟨g, 0, none⟩) (q + 1) cap] 59 ∧ RTold r5 N (x.eng.told i) (x.eng.D i) (.slice (some ⟨g, 0, none⟩) (q + 1) cap) (q + 1) W
theorem CopD.keep {w : World} {x : EngM} {N i : Nat} {y : Lay} {V : Value} {H0 b c r5 sz : Nat} {s : Value} {q : Nat} {b14 b16 : Bool} {W W' : World} (h : CopD w x N i y V H0 b c r5 sz s q b14 b16 W) (hb : Below W.heap.size W W') : CopD w x N i y V H0 b c r5 sz s q b14 b16 W' :=
 ⟨h.inn.keep hb, Nat.le_trans h.sz hb.size, fun h0 => (h.told h0).below hb, fun h0 => (h.old h0).below hb (h.old h0).lt, fun h0 => by obtain ⟨g, cap, h1, h2⟩ := h.new h0; exact ⟨g, cap, h1.below hb h1.lt, h2.below hb⟩⟩

/-- What the operations leave. -/
def copE (vs : List Value) (x : EngM) (N i q r5 : Nat) (s : Value) (b14 b16 : Bool) (k : Nat) (v : Value) (W : World) : Prop :=
 match k with
 | 2 => ∃ g, v = .slice (some ⟨g, 0, none⟩) 0 0
 | 12 => b14 = false → ∃ (a : Option Addr) (c b' : Nat), v = .slice a ((x.rs.r i).T.t.L q) c ∧ Ints a ((x.rs.r i).T.t.L q) b' 0 (x.eng.D i q) W ∧ (0 < (x.rs.r i).T.t.L q → (∃ cs, Blk W b' cs 3) ∧ r5 ≤ b')
 | 13 => b14 = false → ∃ (a : Option Addr) (c b' s1 : Nat), v = .slice (some ⟨s1, 0, none⟩) 1 1 ∧ Blk W s1 #[.slice a ((x.rs.r i).T.t.L q) c] 32 ∧ s.ownBlock ≠ some s1 ∧ Ints a ((x.rs.r i).T.t.L q) b' 0 (x.eng.D i q) W ∧ (0 < (x.rs.r i).T.t.L q → (∃ cs, Blk W b' cs 3) ∧ r5 ≤ b')
 | 14 => b16 = false → ∃ g cap, v = .slice (some ⟨g, 0, none⟩) (q + 1) cap ∧ RTold r5 N (x.eng.told i) (x.eng.D i) v (q + 1) W
 | 16 => True
 | k => vs[k]? = some v
theorem ints_keep {a : Option Addr} {l b o : Nat} {f : Nat → Int} {W W' : World} (h : Ints a l b o f W) (hb : Below W.heap.size W W') (hl : 0 < l → ∃ cs, Blk W b cs 3) : Ints a l b o f W' := h.below hb (fun h0 => by obtain ⟨cs, hc⟩ := hl h0; exact hc.lt)
theorem copE_keep {vs : List Value} {x : EngM} {N i q r5 : Nat} {s : Value} {b14 b16 : Bool} {k : Nat} {v : Value} {W W' : World} (hb : Below W.heap.size W W') (h : copE vs x N i q r5 s b14 b16 k v W) : copE vs x N i q r5 s b14 b16 k v W' := by
 unfold copE at h ⊢
 split at h
 ·exact h
 ·intro h0
  obtain ⟨a, c, b', h1, h2, h3⟩ := h h0
  exact ⟨a, c, b', h1, ints_keep h2 hb (fun h4 => (h3 h4).1), fun h4 => by obtain ⟨⟨cs, h5⟩, h6⟩ := h3 h4; exact ⟨⟨cs, h5.below hb h5.lt⟩, h6⟩⟩
 ·intro h0
  obtain ⟨a, c, b', s1, h1, h1b, h1c, h2, h3⟩ := h h0
  exact ⟨a, c, b', s1, h1, h1b.below hb h1b.lt, h1c, ints_keep h2 hb (fun h4 => (h3 h4).1), fun h4 => by obtain ⟨⟨cs, h5⟩, h6⟩ := h3 h4; exact ⟨⟨cs, h5.below hb h5.lt⟩, h6⟩⟩
 ·intro h0
  obtain ⟨g, cap, h1, h2⟩ := h h0
  exact ⟨g, cap, h1, h2.below hb⟩
 ·trivial
 ·exact h
theorem copE_put {vs : List Value} {x : EngM} {N i q r5 : Nat} {s : Value} {b14 b16 : Bool} {k : Nat} {v : Value} {W : World} (h2 : k ≠ 2) (h12 : k ≠ 12) (h13 : k ≠ 13) (h14 : k ≠ 14) (h16 : k ≠ 16) (h : vs[k]? = some v) : copE vs x N i q r5 s b14 b16 k v W := by
 unfold copE
 split <;> first | contradiction | exact h
theorem copE_get {vs : List Value} {x : EngM} {N i q r5 : Nat} {s : Value} {b14 b16 : Bool} {k : Nat} {v u : Value} {W : World} (h : copE vs x N i q r5 s b14 b16 k v W) (h2 : k ≠ 2) (h12 : k ≠ 12) (h13 : k ≠ 13) (h14 : k ≠ 14) (h16 : k ≠ 16) (hu : vs[k]? = some u) : v = u := by
 unfold copE at h
 split at h <;> first | contradiction | (rw [hu] at h; exact (Option.some.inj h).symm)
/-- The append of the row: what stood on it is used up. -/
theorem copE_used {vs : List Value} {x : EngM} {N i q r5 : Nat} {s : Value} {b16 : Bool} {k : Nat} {v : Value} {W : World} (W' : World) (hk : k ≠ 14) (h : copE vs x N i q r5 s false b16 k v W) : copE vs x N i q r5 s true b16 k v W' := by
 unfold copE at h ⊢
 split at h
 ·exact h
 ·intro h0; cases h0
 ·intro h0; cases h0
 ·contradiction
 ·trivial
 ·exact h
/-- The store. -/
theorem copE_stored {vs : List Value} {x : EngM} {N i q r5 : Nat} {s : Value} {k : Nat} {v : Value} {W : World} (W' : World) (h : copE vs x N i q r5 s true false k v W) : copE vs x N i q r5 s true true k v W' := by
 unfold copE at h ⊢
 split at h
 ·exact h
 ·intro h0; cases h0
 ·intro h0; cases h0
 ·intro h0; cases h0
 ·trivial
 ·exact h

theorem Tryz.infoRtr : (Tryz.prog.info? 59).map (fun i => (i.zero.map (fun z => z.cells.size), i.size, i.bytes)) = some (some 2, 2, 48) := by kernel_rfl
/-- The append of one router, run ahead. -/
theorem append_rtr (W : World) (base : Nat) (V : Value) (k : Nat) (xs : List Value) (ho : W.ownsRow base 59 2 V k xs) (hk : k ≤ 100) (hC : base ≤ W.heap.size) (s : Nat) (u v : Value) (hs : Blk W s #[u, v] 59) (hu : u.oneCell' = true) (hv : v.oneCell' = true) (ty : TypeId) :
  ∃ g cap W', (Builtin.append_ #[28, 28] ty #[V, .slice (some ⟨s, 0, none⟩) 1 1]).run Tryz.prog W = .ok (.slice (some ⟨g, 0, none⟩) (k + 1) cap) W' ∧ W'.ownsRow base 59 2 (.slice (some ⟨g, 0, none⟩) (k + 1) cap) (k + 1) (xs ++ [u, v]) ∧ W.grownBy W' V.ownBlock := by
 obtain ⟨i0, hi0, hq⟩ : ∃ i, Tryz.prog.info? 59 = some i ∧ (i.zero.map (fun z => z.cells.size), i.size, i.bytes) = (some 2, 2, 48) := Option.map_eq_some_iff.1 Tryz.infoRtr
 obtain ⟨z, hz, hzs⟩ : ∃ z, i0.zero = some z ∧ z.cells.size = 2 := by
  have := congrArg Prod.fst hq
  simpa [Option.map_eq_some_iff] using this
 have hsz : i0.size = 2 := congrArg (fun x => x.2.1) hq
 have hby : i0.bytes = 48 := congrArg (fun x => x.2.2) hq
 obtain ⟨g, cap, w', hr, h2, h3, _, _⟩ := run_append_lies (P := Tryz.prog) W 28 ty base 59 i0 z 2 48 Tryz.underlying28 hi0 hz hsz hby hzs (by decide) V k _ ho ⟨s, 0, none⟩ 1 1 [u, v] rfl (World.news_of_block hs) (by intro a ha; simp at ha; rcases ha with rfl | rfl; exact hu; exact hv) (by decide) (by unfold maxLen; omega) (by omega) hC _ rfl
 exact ⟨g, cap, w', hr, h2, h3⟩

/-- Mail behind nothing: it lies anew. -/
theorem append_bag (W : World) (base g : Nat) (hg : W.ownsRow base 69 3 (.slice (some ⟨g, 0, none⟩) 0 0) 0 []) (x : BagM) {N : Nat} (h : x.In N W) (hl : x.bn ≤ 120) (hb : base ≤ W.heap.size) (hgb : W.heap.size = g + 1) (ty : TypeId) :
  ∃ (v : Value) (W' : World), (Builtin.append_ #[29, 29] ty #[.slice (some ⟨g, 0, none⟩) 0 0, .slice x.ba x.bn x.bc]).run Tryz.prog W = .ok v W' ∧ W'.ownsRow base 69 3 v ((List.range x.bn).map x.M).length (mailsL ((List.range x.bn).map x.M)) ∧ Below g W W' := by
 by_cases hp : 0 < x.bn
 ·obtain ⟨i0, hi0, hq⟩ : ∃ i, Tryz.prog.info? 69 = some i ∧ (i.zero.map (fun z => z.cells.size), i.size, i.bytes) = (some 3, 3, 32) := Option.map_eq_some_iff.1 Tryz.infoMail
  obtain ⟨z, hz, hzs⟩ : ∃ z, i0.zero = some z ∧ z.cells.size = 3 := by
   have := congrArg Prod.fst hq
   simpa [Option.map_eq_some_iff] using this
  have hsz : i0.size = 3 := congrArg (fun x => x.2.1) hq
  have hby : i0.bytes = 32 := congrArg (fun x => x.2.2) hq
  have hlen : (mailsL ((List.range x.bn).map x.M)).length = x.bn * 3 := by rw [mailsL_len]; simp
  obtain ⟨g', cap, w', hr, h2, h3, _, _⟩ := run_append_lies (P := Tryz.prog) W 29 ty base 69 i0 z 3 32 Tryz.underlying29 hi0 hz hsz hby hzs (by decide) _ 0 [] hg ⟨x.bb, x.bo, none⟩ x.bn x.bc (mailsL ((List.range x.bn).map x.M)) hlen (fun j u hu => by rw [Go.WideShapes.add_plain]; exact BagM.news h j u hu) (mailsL_one' _) hp (by unfold maxLen; omega) (by omega) hb _ rfl
  rw [h.ba hp]
  refine ⟨_, w', hr, ?_, grown_below h3 (fun k hk => by have : g = k := (by simpa [Value.ownBlock] using hk); omega) (by omega)⟩
  simpa using h2
 ·have h0 : x.bn = 0 := by omega
  rw [h0]
  exact ⟨_, _, append_zeroM W ty g x.ba x.bc, by simpa [mailsL] using hg, Below.refl _ _⟩

set_option maxHeartbeats 8000000 in
theorem refCopied_any (x : EngM) (N : Nat) (w : World) (h : x.In w.heap.size w) (hgn : x.rs.gn = N) (hN0 : 0 < N) (hN6 : N ≤ 6) (hbn : x.bag.bn ≤ 120) (hrl : ∀ i, i < N → (x.rs.r i).rl = N) (htl : ∀ i, i < N → (x.rs.r i).T.t.len = N) (hll : ∀ i, i < N → ∀ q, q < N → (x.rs.r i).T.t.L q = if x.eng.told i q = true then N else 0) :
  Calls Tryz.prog 35 #[x.val] w fun r w' => (∃ P Bv y, LiveR w.heap.size P N x.eng Bv y w' ∧ r = .returned (.agg #[.slice (some ⟨y.G, 0, none⟩) N y.gc, Bv])) ∧ Below w.heap.size w w' := by
 obtain ⟨W0, hW0⟩ : ∃ W0, W0 = ((w.alloc (.cells x.cells 31)).alloc (.cells #[.slice none 0 0, .slice none 0 0] 31)).alloc (.cells #[.slice none 0 0, .slice none 0 0] 31) := ⟨_, rfl⟩
 have hB0 : Below w.heap.size w W0 := by rw [hW0]; exact (((Below.refl _ w).alloc (Nat.le_refl _) _).alloc (by simp) _).alloc (by simp; omega) _
 have b1 : Blk W0 w.heap.size x.cells 31 := by rw [hW0]; exact ((Blk.new w _ _).alloc _).alloc _
 have b2 : Blk W0 (w.heap.size + 1) #[.slice none 0 0, .slice none 0 0] 31 := by rw [hW0]; exact (show Blk _ (w.heap.size + 1) _ _ from Blk.new' (by simp)).alloc _
 have b3 : Blk W0 (w.heap.size + 2) #[.slice none 0 0, .slice none 0 0] 31 := by rw [hW0]; exact Blk.new' (by simp)
 have hcells : x.cells = #[.slice x.rs.ga N x.rs.gc, .slice x.bag.ba x.bag.bn x.bag.bc] := by rw [← hgn]; rfl
 have H := hide h
 have HB0 := hide hB0
 have Hb1 := hide b1
 have Hb2 := hide b2
 have Hb3 := hide b3
 have Hgn := hide hgn
 have Hrl := hide hrl
 have Htl := hide htl
 have Hll := hide hll
 have Hga : Hid (x.rs.ga = some ⟨x.rs.gb, x.rs.go, none⟩) := hide (h.rs.ga (by omega))
 have Hcells := hide hcells
 rw [hcells] at hW0
 rw [EngM.val, hcells]
 have HW0 := hide hW0
 clear h hB0 b1 b2 b3 hgn hrl htl hll hcells hW0
 go_enter Tryz.func35, Tryz.ntmps35
 go_wp2_with fail
 rw [← HW0.out]
 have y0 : Lay := ⟨0, 0, #[], fun _ => 0, fun _ => 0, fun _ => 0, fun _ => 0, fun _ => #[], fun _ _ => none, fun _ _ => 0, fun _ _ => 0, fun _ _ => 0, 0⟩
 go_loopw [4, 5, 6] (fun q _ _ wr => ∃ k : Nat, k ≤ N ∧ q = .int .i64 k ∧ Hid (∃ y V, Below w.heap.size w wr ∧ Blk wr w.heap.size x.cells 31 ∧ Blk wr (w.heap.size + 1) #[.slice none 0 0, .slice none 0 0] 31 ∧ Blk wr (w.heap.size + 2) #[V, .slice none 0 0] 31 ∧ RCop w.heap.size wr.heap.size N x.eng y V k wr)) (fun q _ _ _ => N - (intOf q).toNat)
 case atStart => exact ⟨0, Nat.zero_le _, rfl, hide ⟨y0, .slice none 0 0, HB0.out, Hb1.out, Hb2.out, Hb3.out, RCop.nil _ _ _ _ _ _⟩⟩
 case round =>
  obtain ⟨k, hk, rfl, HI⟩ := hrel
  obtain ⟨y, V, hB, hb1, hb2, hb3, hC⟩ := HI.out
  have x0 := hb1.cell 0
  simp [Hcells.out] at x0
  by_cases hlt : k < N
  ·have hki : (k : Int) < (N : Int) := by omega
   have hI := H.out.below hB (Nat.le_refl _)
   have hkg : k < x.rs.gn := by rw [Hgn.out]; exact hlt
   have c0 := hI.rs.c0 k hkg
   rw [Hrl.out k hlt] at c0
   have hri := (hI.rs.r k hkg)
   have hint := hri.ints
   rw [Hrl.out k hlt] at hint
   obtain ⟨a', c', b', W2, hrun, hI2, hb', hB2⟩ := append_copy (wr.alloc (.cells #[] 3)) wr.heap.size (x.rs.r k).ra N (x.rs.r k).rc (x.rs.r k).rb (x.rs.r k).ro (x.rs.r k).R ⟨hint.addr, fun i hi => by rw [((Below.refl wr.heap.size wr).alloc (Nat.le_refl _) (.cells #[] 3)).cell (p := ⟨(x.rs.r k).rb, (x.rs.r k).ro + i, none⟩) (Nat.lt_of_lt_of_le (hri.lt (by rw [Hrl.out k hlt]; exact hN0)) hB.size)]; exact hint.cell i hi, hint.len⟩ (by omega) 32
   obtain ⟨⟨bcs, hbk⟩, hbH⟩ := hb' hN0
   have ha' := hI2.addr hN0
   subst ha'
   obtain ⟨H0, hH0⟩ : ∃ H0, H0 = wr.heap.size := ⟨_, rfl⟩
   have hs1 : (wr.alloc (.cells #[] 3)).heap.size = wr.heap.size + 1 := by simp
   have hBW2 : Below wr.heap.size wr W2 := ((Below.refl _ wr).alloc (Nat.le_refl _) _).trans (hB2.mono (by rw [hs1]; omega))
   obtain ⟨r5, hr5⟩ : ∃ r5, r5 = W2.heap.size := ⟨_, rfl⟩
   obtain ⟨W3, hW3⟩ : ∃ W3, W3 = W2.alloc (.cells #[.slice (some ⟨b', 0, none⟩) N c', .slice none 0 0] 59) := ⟨_, rfl⟩
   have hB3 : Below W2.heap.size W2 W3 := by rw [hW3]; exact (Below.refl _ W2).alloc (Nat.le_refl _) _
   have hB13 := hBW2.trans (hB3.mono hBW2.size)
   have hbk3 := hbk.below hB3 hbk.lt
   have HRI : Hid (RIn w x N k y V H0 b' r5 W3) := hide ⟨hB.trans (hB13.mono hB.size), hb1.below hB13 hb1.lt, hb2.below hB13 hb2.lt, hb3.below hB13 hb3.lt, by rw [hH0]; exact hC.below hB13, ⟨_, hbk3⟩, fun j hj => by rw [hB3.cell (p := ⟨b', j, none⟩) hbk.lt]; have := hI2.cell j hj; rwa [Nat.zero_add] at this, ⟨by omega, by rw [hr5]; exact hbk.lt, by rw [hH0]; exact hB.size⟩⟩
   have HRB : Hid (Blk W3 r5 #[.slice (some ⟨b', 0, none⟩) N c', .slice none 0 0] 59) := hide (by rw [hW3]; exact Blk.new' hr5)
   have HVl : Hid (V.ownBlock ≠ some r5) := hide (fun hv => by have := (hC.rtrs.lt r5 hv).2; have := hBW2.size; omega)
   have HT0 : Hid (RTold r5 N (x.eng.told k) (x.eng.D k) (.slice none 0 0) 0 W3) := hide (RTold.nil _ _ _ _ _)
   have Hg3 : Hid (r5 < W3.heap.size) := hide (HRB.out.lt)
   have hra := hint.addr hN0
   rw [hra] at c0 hrun
   have Hrun := hide hrun
   have Hra := hide hra
   rw [Hga.out] at x0
   have x0a : ∀ o, (wr.alloc o).cell? ⟨w.heap.size, 0, none⟩ = some (.slice (some ⟨x.rs.gb, x.rs.go, none⟩) N x.rs.gc) := fun o => by have := (hb1.alloc o).cell 0; rw [Hcells.out, Hga.out] at this; simpa using this
   have c0a : ∀ o, (wr.alloc o).cell? ⟨x.rs.gb, x.rs.go + k * 2, none⟩ = some (.slice (some ⟨(x.rs.r k).rb, (x.rs.r k).ro, none⟩) N (x.rs.r k).rc) := fun o => by rw [((Below.refl wr.heap.size wr).alloc (Nat.le_refl _) o).cell (p := ⟨x.rs.gb, x.rs.go + k * 2, none⟩) (Nat.lt_of_lt_of_le (hI.rs.gb (by omega)) hB.size)]; exact c0
   have HW3 := hide hW3
   have Hr5 := hide hr5
   clear hB hb1 hb2 hb3 hC hI hri hint hI2 hb' hB2 hbk hbH hbk3 hB3 hB13 hBW2 hW3 hr5 hH0 HI hs1 hrun hra
   go_wp2_with (at_builtin; refine Lib.wpList_append_run _ rfl _ _ _ _ rfl _ _ rfl rfl _ _ Hrun.out ?_)
   rw [← HW3.out, ← Hr5.out]
   clear c0 x0 x0a c0a
   go_loopw [6] (fun q wr => ∃ p : Nat, p ≤ N ∧ q = .int .i64 p ∧ Hid (∃ s, RIn w x N k y V H0 b' r5 wr ∧ Blk wr r5 #[.slice (some ⟨b', 0, none⟩) N c', s] 59 ∧ RTold r5 N (x.eng.told k) (x.eng.D k) s p wr ∧ (0 < p → ∃ g cap, s = .slice (some ⟨g, 0, none⟩) p cap))) (fun q _ => N - (intOf q).toNat)
   case atStart => exact ⟨0, Nat.zero_le _, rfl, hide ⟨_, HRI.out, HRB.out, HT0.out, fun h0 => absurd h0 (Nat.lt_irrefl _)⟩⟩
   case round =>
    clear HRI HRB HT0
    obtain ⟨p, hp, rfl, HJ⟩ := hrel
    obtain ⟨s, hRI, hRB, hT, hform⟩ := HJ.out
    have x0 := hRI.bx.cell 0
    simp [Hcells.out] at x0
    rw [Hga.out] at x0
    have hI := H.out.below hRI.below (Nat.le_refl _)
    have hkg : k < x.rs.gn := by rw [Hgn.out]; exact hlt
    have c1 := hI.rs.c1 k hkg
    rw [Htl.out k hlt] at c1
    by_cases hpl : p < N
    ·have hpi : (p : Int) < (N : Int) := by omega
     have Hga2 : Hid ((x.rs.r k).T.ga = some ⟨(x.rs.r k).T.gb, (x.rs.r k).T.go, none⟩) := hide ((hI.rs.r k hkg).T.ga (by rw [Htl.out k hlt]; omega))
     have Hkg := hide hkg
     have Hhs : Hid (∀ g, s.ownBlock = some g → g < wr.heap.size) := hide (fun g hg => by obtain ⟨ta, tc, db, k1, _⟩ := hT.ex; exact (k1.lt g hg).2)
     obtain ⟨wz, hwz⟩ : ∃ wz, wz = wr.heap.size := ⟨_, rfl⟩
     have HG0 : Hid (CopD w x N k y V H0 b' c' r5 wz s p false false wr) := hide ⟨hRI, by omega, fun _ => hT, fun _ => hRB, fun h0 => by cases h0⟩
     rw [← hwz] at Hhs
     have Hr5w : Hid (r5 < wr.heap.size) := hide hRB.lt
     clear hRI hRB hT hI hkg HJ hform
     rw [Hga2.out] at c1
     go_wp2_with fail
     clear c1 x0
     refine wp_region_done (fun d W => CopD w x N k y V H0 b' c' r5 wz s p (d 14) (d 16) W) (fun d => copE [.pointer (some ⟨r5, 1, none⟩), s, undef, .pointer (some ⟨w.heap.size, 0, none⟩), .slice (some ⟨x.rs.gb, x.rs.go, none⟩) N x.rs.gc, .int .i64 (k : Int), .pointer (some ⟨x.rs.gb, x.rs.go + k * 2, none⟩), .pointer (some ⟨x.rs.gb, x.rs.go + k * 2 + 1, none⟩), .slice (some ⟨(x.rs.r k).T.gb, (x.rs.r k).T.go, none⟩) N (x.rs.r k).T.cap, .int .i64 (p : Int), .pointer (some ⟨(x.rs.r k).T.gb, (x.rs.r k).T.go + p, none⟩), .slice ((x.rs.r k).T.A p) ((x.rs.r k).T.t.L p) ((x.rs.r k).T.C p), undef, undef, undef, .pointer (some ⟨r5, 1, none⟩), undef] x N k p r5 s (d 14) (d 16)) (by kernel_rfl) (by kernel_rfl) (by kernel_rfl) (HG0.out.keep ⟨rfl, rfl, rfl, Nat.le_refl _, fun _ _ => rfl⟩) ⟨?_, ?_, ?_, ?_, ?_, ?_, ?_, ?_, ?_, ?_, ?_, ?_, ?_, ?_, ?_, ?_, ?_, trivial⟩ ?_
     rotate_right
     ·intro d t W hall hG _
      have h16 : d 16 = true := hall 16 (by decide)
      obtain ⟨g9, c9, hB9, hT9⟩ := hG.new h16
      have HJ9 : Hid (∃ s, RIn w x N k y V H0 b' r5 W ∧ Blk W r5 #[.slice (some ⟨b', 0, none⟩) N c', s] 59 ∧ RTold r5 N (x.eng.told k) (x.eng.D k) s (p + 1) W ∧ (0 < p + 1 → ∃ g cap, s = .slice (some ⟨g, 0, none⟩) (p + 1) cap)) := hide ⟨_, hG.inn, hB9, hT9, fun _ => ⟨g9, c9, rfl⟩⟩
      clear hG hB9 hT9 hall h16 HG0
      simp only [fill, Act.put, List.setIfInBounds_toArray, List.set_cons_zero, List.set_cons_succ]
      go_wp2
      go_roundw
      case rel =>
       first
       | exact ⟨p + 1, by omega, by go_num, HJ9⟩
       | ((try rw [← Hga.out]); (try rw [← Hga2.out]); (repeat apply Exists.intro); refine ⟨?_, rfl⟩; exact ⟨p + 1, by omega, by go_num, HJ9⟩)
      case measure => simp [intOf]; omega
     all_goals intro d t W hs ho hd hw hG hp K hK
     all_goals simp only [fill, Act.put, List.setIfInBounds_toArray, List.set_cons_zero, List.set_cons_succ] at hK ⊢
     ·rw [if_pos (by rfl)]
      go_simp
      exact hK _ _ hG (copE_put (by decide) (by decide) (by decide) (by decide) (by decide) rfl) (fun j _ _ h => h)
     ·have e0 := copE_get (hp 0 (hw 0 (by decide))) (by decide) (by decide) (by decide) (by decide) (by decide) rfl
      have h16 := not_yet (F := 17) (S := 16) hs hd (by kernel_rfl)
      have cq := (hG.old h16).cell 1
      simp at cq
      have hsf : ∃ sa sl sc, s = .slice sa sl sc := by obtain ⟨ta, tc, db, k1, _⟩ := (hG.told (not_yet (F := 17) (S := 14) hs hd (by kernel_rfl))).ex; obtain ⟨a, c, e⟩ := own_form k1; exact ⟨a, p, c, e⟩
      obtain ⟨sa, sl, sc, rfl⟩ := hsf
      simp only [e0] at hK ⊢
      rw [if_pos (by rfl)]
      go_simp
      exact hK _ _ hG (copE_put (by decide) (by decide) (by decide) (by decide) (by decide) rfl) (fun j _ _ h => h)
     ·rw [if_pos (by rfl)]
      go_simp
      exact hK _ _ (hG.keep ((Below.refl _ W).alloc (Nat.le_refl _) _)) ⟨_, rfl⟩ (fun j _ _ h => copE_keep ((Below.refl _ W).alloc (Nat.le_refl _) _) h)
     ·rw [if_pos (by rfl)]
      go_simp
      exact hK _ _ hG (copE_put (by decide) (by decide) (by decide) (by decide) (by decide) rfl) (fun j _ _ h => h)
     ·have e3 := copE_get (hp 3 (hw 3 (by decide))) (by decide) (by decide) (by decide) (by decide) (by decide) rfl
      have cx := hG.inn.bx.cell 0
      simp [Hcells.out] at cx
      rw [Hga.out] at cx
      simp only [e3] at hK ⊢
      rw [if_pos (by rfl)]
      go_simp
      exact hK _ _ hG (copE_put (by decide) (by decide) (by decide) (by decide) (by decide) rfl) (fun j _ _ h => h)
     ·rw [if_pos (by rfl)]
      go_simp
      exact hK _ _ hG (copE_put (by decide) (by decide) (by decide) (by decide) (by decide) rfl) (fun j _ _ h => h)
     ·have e4 := copE_get (hp 4 (hw 4 (by decide))) (by decide) (by decide) (by decide) (by decide) (by decide) rfl
      have e5 := copE_get (hp 5 (hw 5 (by decide))) (by decide) (by decide) (by decide) (by decide) (by decide) rfl
      simp only [e4, e5] at hK ⊢
      rw [if_pos (by rfl)]
      go_simp
      exact hK _ _ hG (copE_put (by decide) (by decide) (by decide) (by decide) (by decide) rfl) (fun j _ _ h => h)
     ·have e6 := copE_get (hp 6 (hw 6 (by decide))) (by decide) (by decide) (by decide) (by decide) (by decide) rfl
      simp only [e6] at hK ⊢
      rw [if_pos (by rfl)]
      go_simp
      exact hK _ _ hG (copE_put (by decide) (by decide) (by decide) (by decide) (by decide) rfl) (fun j _ _ h => h)
     ·have e7 := copE_get (hp 7 (hw 7 (by decide))) (by decide) (by decide) (by decide) (by decide) (by decide) rfl
      have cx := (H.out.below hG.inn.below (Nat.le_refl _)).rs.c1 k Hkg.out
      rw [Htl.out k hlt, Hga2.out] at cx
      simp only [e7] at hK ⊢
      rw [if_pos (by rfl)]
      go_simp
      exact hK _ _ hG (copE_put (by decide) (by decide) (by decide) (by decide) (by decide) rfl) (fun j _ _ h => h)
     ·rw [if_pos (by rfl)]
      go_simp
      exact hK _ _ hG (copE_put (by decide) (by decide) (by decide) (by decide) (by decide) rfl) (fun j _ _ h => h)
     ·have e8 := copE_get (hp 8 (hw 8 (by decide))) (by decide) (by decide) (by decide) (by decide) (by decide) rfl
      have e9 := copE_get (hp 9 (hw 9 (by decide))) (by decide) (by decide) (by decide) (by decide) (by decide) rfl
      simp only [e8, e9] at hK ⊢
      rw [if_pos (by rfl)]
      go_simp
      exact hK _ _ hG (copE_put (by decide) (by decide) (by decide) (by decide) (by decide) rfl) (fun j _ _ h => h)
     ·have e10 := copE_get (hp 10 (hw 10 (by decide))) (by decide) (by decide) (by decide) (by decide) (by decide) rfl
      have cx := ((H.out.below hG.inn.below (Nat.le_refl _)).rs.r k Hkg.out).T.row p (by rw [Htl.out k hlt]; exact hpl)
      simp only [e10] at hK ⊢
      rw [if_pos (by rfl)]
      go_simp
      exact hK _ _ hG (copE_put (by decide) (by decide) (by decide) (by decide) (by decide) rfl) (fun j _ _ h => h)
     ·obtain ⟨g, e2⟩ := hp 2 (hw 2 (by decide))
      have e11 := copE_get (hp 11 (hw 11 (by decide))) (by decide) (by decide) (by decide) (by decide) (by decide) rfl
      have hTp := ((H.out.below hG.inn.below (Nat.le_refl _)).rs.r k Hkg.out).T.ints (r := p) (by rw [Htl.out k hlt]; exact hpl)
      obtain ⟨a2, c2, b2, W2, hrun, hI2, hb2, hB2⟩ := append_copy W g ((x.rs.r k).T.A p) ((x.rs.r k).T.t.L p) ((x.rs.r k).T.C p) ((x.rs.r k).T.RB p) ((x.rs.r k).T.RO p) ((x.rs.r k).T.t.Z p) hTp (by rw [Hll.out k hlt p hpl]; split <;> omega) 32
      have Hr5W : r5 ≤ W.heap.size := by have := hG.sz; have := Hr5w.out; omega
      simp only [e2] at hK ⊢
      simp only [e11] at hK ⊢
      rw [if_pos (by rfl)]
      refine wp_append_run (by rfl) _ _ 32 (by rfl) _ _ (by rfl) (by rfl) _ W2 hrun ?_
      exact hK _ W2 (hG.keep hB2) (fun _ => ⟨a2, c2, b2, rfl, hI2, fun h0 => ⟨(hb2 h0).1, Nat.le_trans Hr5W (hb2 h0).2⟩⟩) (fun j _ _ h => copE_keep hB2 h)
     ·have h14 := not_yet (F := 17) (S := 14) hs hd (by kernel_rfl)
      obtain ⟨a, c, b2, e12, hI2, hb2⟩ := hp 12 (hw 12 (by decide)) h14
      simp only [e12] at hK ⊢
      rw [if_pos (by rfl)]
      go_simp
      have hBn : Below W.heap.size W (W.alloc (.cells #[.slice a ((x.rs.r k).T.t.L p) c] 32)) := (Below.refl _ W).alloc (Nat.le_refl _) _
      exact hK _ _ (hG.keep hBn) (fun _ => ⟨a, c, b2, W.heap.size, rfl, Blk.new W _ _, fun hv => by have := Hhs.out _ hv; have := hG.sz; omega, ints_keep hI2 hBn (fun h4 => (hb2 h4).1), fun h4 => by obtain ⟨⟨cs, h5⟩, h6⟩ := hb2 h4; exact ⟨⟨cs, h5.alloc _⟩, h6⟩⟩) (fun j _ _ h => copE_keep hBn h)
     ·have h16 := not_yet (F := 17) (S := 16) hs hd (by kernel_rfl)
      have e1 := copE_get (hp 1 (hw 1 (by decide))) (by decide) (by decide) (by decide) (by decide) (by decide) rfl
      obtain ⟨a, c, b2, s1, e13, hs1, hsV, hI2, hb2⟩ := hp 13 (hw 13 (by decide)) hd
      have hT := hG.told hd
      obtain ⟨g9, c9, W9, hrun, hT9, hgrow, hlow⟩ := hT.push (by omega) (by have := hG.sz; have := Hr5w.out; omega) (Hll.out k hlt p hpl) hI2 hb2 hN0 hs1 22
      obtain ⟨ta, tc, db, k1, _⟩ := hT.ex
      have hIn := hG.inn.grown k1 hgrow
      have hold := (hG.old h16).kept hgrow (fun hv => own_ne k1 (hG.old h16) (by decide) hv.symm rfl)
      simp only [e1] at hK ⊢
      simp only [e13] at hK ⊢
      rw [if_pos (by rfl)]
      refine wp_append_run (by rfl) _ _ 22 (by rfl) _ _ (by rfl) (by rfl) _ W9 hrun ?_
      refine hK _ W9 ⟨hIn, Nat.le_trans hG.sz hgrow.size, fun h0 => (by cases h0), fun _ => hold, fun h0 => (absurd (h16.symm.trans h0) (by decide))⟩ (fun _ => ⟨g9, c9, rfl, hT9⟩) (fun j hj _ h => ?_)
      have h' : copE [.pointer (some ⟨r5, 1, none⟩), s, undef, .pointer (some ⟨w.heap.size, 0, none⟩), .slice (some ⟨x.rs.gb, x.rs.go, none⟩) N x.rs.gc, .int .i64 (k : Int), .pointer (some ⟨x.rs.gb, x.rs.go + k * 2, none⟩), .pointer (some ⟨x.rs.gb, x.rs.go + k * 2 + 1, none⟩), .slice (some ⟨(x.rs.r k).T.gb, (x.rs.r k).T.go, none⟩) N (x.rs.r k).T.cap, .int .i64 (p : Int), .pointer (some ⟨(x.rs.r k).T.gb, (x.rs.r k).T.go + p, none⟩), .slice ((x.rs.r k).T.A p) ((x.rs.r k).T.t.L p) ((x.rs.r k).T.C p), undef, undef, undef, .pointer (some ⟨r5, 1, none⟩), undef] x N k p r5 s false (d 16) j (t j) W := by rw [← hd]; exact h
      exact copE_used W9 hj h'
     ·rw [if_pos (by rfl)]
      go_simp
      exact hK _ _ hG (copE_put (by decide) (by decide) (by decide) (by decide) (by decide) rfl) (fun j _ _ h => h)
     ·have e15 := copE_get (hp 15 (hw 15 (by decide))) (by decide) (by decide) (by decide) (by decide) (by decide) rfl
      obtain ⟨g9, c9, e14, hT9⟩ := hp 14 (hw 14 (by decide)) hd
      have h14 := done_back (F := 17) hs ho hw (S := 14) (by kernel_rfl) (by decide)
      rw [e14] at hT9
      have hold := hG.old hd
      have cq := hold.cell 1
      have fq := hold.frozen 1
      simp at cq
      have hN : CopD w x N k y V H0 b' c' r5 wz s p true true (W.setCell ⟨r5, 1, none⟩ (.slice (some ⟨g9, 0, none⟩) (p + 1) c9)) := ⟨hG.inn.set hold HVl.out _ _, by simpa using hG.sz, fun h0 => (by cases h0), fun h0 => (by cases h0), fun _ => ⟨g9, c9, by have := hold.set 1 (.slice (some ⟨g9, 0, none⟩) (p + 1) c9); simpa using this, hT9.set hold (by decide) (by decide) _⟩⟩
      have HN := hide hN
      have hKp : ∀ j, d j = true → copE [.pointer (some ⟨r5, 1, none⟩), s, undef, .pointer (some ⟨w.heap.size, 0, none⟩), .slice (some ⟨x.rs.gb, x.rs.go, none⟩) N x.rs.gc, .int .i64 (k : Int), .pointer (some ⟨x.rs.gb, x.rs.go + k * 2, none⟩), .pointer (some ⟨x.rs.gb, x.rs.go + k * 2 + 1, none⟩), .slice (some ⟨(x.rs.r k).T.gb, (x.rs.r k).T.go, none⟩) N (x.rs.r k).T.cap, .int .i64 (p : Int), .pointer (some ⟨(x.rs.r k).T.gb, (x.rs.r k).T.go + p, none⟩), .slice ((x.rs.r k).T.A p) ((x.rs.r k).T.t.L p) ((x.rs.r k).T.C p), undef, undef, undef, .pointer (some ⟨r5, 1, none⟩), undef] x N k p r5 s (d 14) (d 16) j (t j) W → copE [.pointer (some ⟨r5, 1, none⟩), s, undef, .pointer (some ⟨w.heap.size, 0, none⟩), .slice (some ⟨x.rs.gb, x.rs.go, none⟩) N x.rs.gc, .int .i64 (k : Int), .pointer (some ⟨x.rs.gb, x.rs.go + k * 2, none⟩), .pointer (some ⟨x.rs.gb, x.rs.go + k * 2 + 1, none⟩), .slice (some ⟨(x.rs.r k).T.gb, (x.rs.r k).T.go, none⟩) N (x.rs.r k).T.cap, .int .i64 (p : Int), .pointer (some ⟨(x.rs.r k).T.gb, (x.rs.r k).T.go + p, none⟩), .slice ((x.rs.r k).T.A p) ((x.rs.r k).T.t.L p) ((x.rs.r k).T.C p), undef, undef, undef, .pointer (some ⟨r5, 1, none⟩), undef] x N k p r5 s true true j (t j) (W.setCell ⟨r5, 1, none⟩ (.slice (some ⟨g9, 0, none⟩) (p + 1) c9)) := fun j _ h => copE_stored _ (by rw [h14, hd] at h; exact h)
      have HKp := hide hKp
      have h14' : updB d 16 14 = true := h14
      have h16' : updB d 16 16 = true := by simp [updB]
      clear hKp hN hold hT9
      simp only [e14] at hK ⊢
      simp only [e15] at hK ⊢
      rw [if_pos (by rfl)]
      go_simp
      exact hK undef _ (by show CopD w x N k y V H0 b' c' r5 wz s p (updB d 16 14) (updB d 16 16) _; rw [h14', h16']; exact HN.out) trivial (fun j _ hj h => by show copE _ x N k p r5 s (updB d 16 14) (updB d 16 16) j (t j) _; rw [h14', h16']; exact HKp.out j hj h)
    ·have hpn : p = N := by omega
     subst hpn
     have hpi : (p : Int) ≤ (p : Int) := Int.le_refl _
     obtain ⟨gt, ct, hs⟩ := hform hN0
     subst hs
     obtain ⟨W4, hW4⟩ : ∃ W4, W4 = wr.alloc (.cells #[.slice (some ⟨b', 0, none⟩) p c', .slice (some ⟨gt, 0, none⟩) p ct] 59) := ⟨_, rfl⟩
     have hB4 : Below wr.heap.size wr W4 := by rw [hW4]; exact (Below.refl _ wr).alloc (Nat.le_refl _) _
     have hs4 : Blk W4 wr.heap.size #[.slice (some ⟨b', 0, none⟩) p c', .slice (some ⟨gt, 0, none⟩) p ct] 59 := by rw [hW4]; exact Blk.new wr _ _
     have hR4 := hRI.keep hB4
     obtain ⟨g5, c5, W5, hrun, hown, hgrow⟩ := append_rtr W4 w.heap.size V k (rtrsV y p k) hR4.cop.rtrs (by omega) hR4.below.size wr.heap.size _ _ hs4 rfl rfl 28
     obtain ⟨y', hC5⟩ := hR4.cop.push hR4.lo.2.2 hR4.row hR4.lo.1 hR4.cells hR4.lo.2.1 (hT.below hB4) hown hgrow
     have neE : ∀ q cs, Blk W4 q cs 31 → some q ≠ V.ownBlock := fun q cs hq hv => own_ne hR4.cop.rtrs hq (by decide) hv.symm rfl
     have k1 := hR4.bx.kept hgrow (neE _ _ hR4.bx)
     have k2 := hR4.res.kept hgrow (neE _ _ hR4.res)
     have k3 := hR4.out.kept hgrow (neE _ _ hR4.out)
     have hB5 : Below w.heap.size w W5 := hR4.below.trans (grown_below hgrow (fun q hq => (hR4.cop.rtrs.lt q hq).1) hR4.below.size)
     have HI6 : Hid (∃ y V', Below w.heap.size w (W5.setCell ⟨w.heap.size + 2, 0, none⟩ (.slice (some ⟨g5, 0, none⟩) (k + 1) c5)) ∧ Blk (W5.setCell ⟨w.heap.size + 2, 0, none⟩ (.slice (some ⟨g5, 0, none⟩) (k + 1) c5)) w.heap.size x.cells 31 ∧ Blk (W5.setCell ⟨w.heap.size + 2, 0, none⟩ (.slice (some ⟨g5, 0, none⟩) (k + 1) c5)) (w.heap.size + 1) #[.slice none 0 0, .slice none 0 0] 31 ∧ Blk (W5.setCell ⟨w.heap.size + 2, 0, none⟩ (.slice (some ⟨g5, 0, none⟩) (k + 1) c5)) (w.heap.size + 2) #[V', .slice none 0 0] 31 ∧ RCop w.heap.size (W5.setCell ⟨w.heap.size + 2, 0, none⟩ (.slice (some ⟨g5, 0, none⟩) (k + 1) c5)).heap.size p x.eng y V' (k + 1) (W5.setCell ⟨w.heap.size + 2, 0, none⟩ (.slice (some ⟨g5, 0, none⟩) (k + 1) c5))) := hide
      ⟨y', .slice (some ⟨g5, 0, none⟩) (k + 1) c5, hB5.setCell (p := ⟨w.heap.size + 2, 0, none⟩) (by show w.heap.size ≤ w.heap.size + 2; omega) _, k1.other (by omega) _ _, k2.other (by omega) _ _, by have := k3.set 0 (.slice (some ⟨g5, 0, none⟩) (k + 1) c5); simpa using this, (hC5.set k3 (by decide) (by decide) (fun hv => own_ne hC5.rtrs k3 (by decide) hv rfl) _).mono (by simp)⟩
     have o0 := (hRI.out.cell 0)
     have rb0 := hRB.cell 0
     have rb1 := hRB.cell 1
     have o5 := k3.cell 0
     have f5 := k3.frozen 0
     simp at o0 rb0 rb1 o5
     obtain ⟨va, vl, vc, hVf⟩ : ∃ va vl vc, V = .slice va vl vc := by obtain ⟨a, c, e⟩ := own_form hR4.cop.rtrs; exact ⟨a, k, c, e⟩
     have Hrun := hide hrun
     rw [hVf] at o0 Hrun o5
     have o4 : W4.cell? ⟨w.heap.size + 2, 0, none⟩ = some (.slice va vl vc) := by have := hR4.out.cell 0; rw [hVf] at this; simpa using this
     rw [hW4] at Hrun o4
     clear hRI hRB hT hI hkg HJ hform hB4 hs4 hR4 hown hgrow hC5 neE k1 k2 k3 hB5 hrun hVf hW4
     go_wp2_with (at_builtin; refine Lib.wpList_append_run _ rfl _ _ _ _ rfl _ _ rfl rfl _ _ Hrun.out ?_)
     go_roundw
     case rel =>
      first
      | exact ⟨k + 1, by omega, by go_num, HI6⟩
      | ((try rw [← Hga.out]); (repeat apply Exists.intro); refine ⟨?_, rfl⟩; exact ⟨k + 1, by omega, by go_num, HI6⟩)
     case measure => simp [intOf]; omega
  ·have hkn : k = N := by omega
   subst hkn
   have hki : (k : Int) ≤ (k : Int) := Int.le_refl _
   have x1 := hb1.cell 1
   simp [Hcells.out] at x1
   have x1a : ∀ o, (wr.alloc o).cell? ⟨w.heap.size, 1, none⟩ = some (.slice x.bag.ba x.bag.bn x.bag.bc) := fun o => by have := (hb1.alloc o).cell 1; rw [Hcells.out] at this; simpa using this
   have hB6 : Below wr.heap.size wr (wr.alloc (.cells #[] 69)) := (Below.refl _ wr).alloc (Nat.le_refl _) _
   have hown6 : World.ownsRow (wr.alloc (.cells #[] 69)) wr.heap.size 69 3 (.slice (some ⟨wr.heap.size, 0, none⟩) 0 0) 0 [] :=
    World.ownsRow_made wr #[] 0 (base := wr.heap.size) (e := 69) (size := 3) (Nat.le_refl _) (Nat.zero_le _) (by simp)
   obtain ⟨v, W7, hrun, hown7, hB7⟩ := append_bag (wr.alloc (.cells #[] 69)) wr.heap.size wr.heap.size hown6 x.bag ((H.out.below hB (Nat.le_refl _)).below hB6 hB.size).bag hbn (by simp) (by simp) 29
   have hB67 := hB6.trans hB7
   have k1 := hb1.below hB67 hb1.lt
   have k2 := hb2.below hB67 hb2.lt
   have k3 := hb3.below hB67 hb3.lt
   have hC7 := hC.below hB67
   have hbag7 : W7.ownsRow w.heap.size 69 3 v x.eng.bag.length (mailsL x.eng.bag) := Go.Joins.ownsRow_le hown7 hB.size
   obtain ⟨va, vc, hVf⟩ := own_form hC.rtrs
   obtain ⟨ba, bc, hvf⟩ := own_form hbag7
   have nV : ∀ (W : World) q cs, RCop w.heap.size wr.heap.size k x.eng y V k W → Blk W q cs 31 → V.ownBlock ≠ some q := fun W q cs hc hq hv => own_ne hc.rtrs hq (by decide) hv rfl
   have nB : ∀ (W : World) q cs, W.ownsRow w.heap.size 69 3 v x.eng.bag.length (mailsL x.eng.bag) → Blk W q cs 31 → v.ownBlock ≠ some q := fun W q cs hc hq hv => own_ne hc hq (by decide) hv rfl
   have k2a := k2.other (C := w.heap.size + 2) (by omega) 1 v
   have k3a : Blk (W7.setCell ⟨w.heap.size + 2, 1, none⟩ v) (w.heap.size + 2) #[V, v] 31 := by have := k3.set 1 v; simpa using this
   have hCa := hC7.set (j := 1) k3 (by decide) (by decide) (nV _ _ _ hC7 k3) v
   have hba : World.ownsRow (W7.setCell ⟨w.heap.size + 2, 1, none⟩ v) w.heap.size 69 3 v x.eng.bag.length (mailsL x.eng.bag) := ownsRow_setCell_other hbag7 (nB _ _ _ hbag7 k3) v
   have k2b := k2a.set 0 V
   have k3b := k3a.other (C := w.heap.size + 1) (by omega) 0 V
   have hCb := hCa.set (j := 0) k2a (by decide) (by decide) (nV _ _ _ hCa k2a) V
   have hbb : World.ownsRow ((W7.setCell ⟨w.heap.size + 2, 1, none⟩ v).setCell ⟨w.heap.size + 1, 0, none⟩ V) w.heap.size 69 3 v x.eng.bag.length (mailsL x.eng.bag) := ownsRow_setCell_other hba (nB _ _ _ hba k2a) V
   have k2c := k2b.set 1 v
   have k3c := k3b.other (C := w.heap.size + 1) (by omega) 1 v
   have hCc := hCb.set (j := 1) k2b (by decide) (by decide) (nV _ _ _ hCb k2b) v
   have hbc : World.ownsRow (((W7.setCell ⟨w.heap.size + 2, 1, none⟩ v).setCell ⟨w.heap.size + 1, 0, none⟩ V).setCell ⟨w.heap.size + 1, 1, none⟩ v) w.heap.size 69 3 v x.eng.bag.length (mailsL x.eng.bag) := ownsRow_setCell_other hbb (nB _ _ _ hbb k2b) v
   obtain ⟨y9, hL9, hV9⟩ := hCc.live hN0 k3c (by omega) hbc
   have hBw : Below w.heap.size w W7 := hB.trans (hB67.mono hB.size)
   have HF : Hid ((∃ P Bv y, LiveR w.heap.size P k x.eng Bv y (((W7.setCell ⟨w.heap.size + 2, 1, none⟩ v).setCell ⟨w.heap.size + 1, 0, none⟩ V).setCell ⟨w.heap.size + 1, 1, none⟩ v) ∧ Ending.returned (.agg #[V, v]) = .returned (.agg #[.slice (some ⟨y.G, 0, none⟩) k y.gc, Bv])) ∧ Below w.heap.size w (((W7.setCell ⟨w.heap.size + 2, 1, none⟩ v).setCell ⟨w.heap.size + 1, 0, none⟩ V).setCell ⟨w.heap.size + 1, 1, none⟩ v)) := hide ⟨⟨_, v, y9, hL9, by rw [hV9]⟩, ((hBw.setCell (p := ⟨w.heap.size + 2, 1, none⟩) (by show w.heap.size ≤ w.heap.size + 2; omega) _).setCell (p := ⟨w.heap.size + 1, 0, none⟩) (by show w.heap.size ≤ w.heap.size + 1; omega) _).setCell (p := ⟨w.heap.size + 1, 1, none⟩) (by show w.heap.size ≤ w.heap.size + 1; omega) _⟩
   have o1 := k3.cell 1
   have fo1 := k3.frozen 1
   have p0 := k3a.cell 0
   have p1 := k3a.cell 1
   have q0 := k2a.cell 0
   have q1 := k2a.cell 1
   have fq0 := k2a.frozen 0
   have fq1 := k2a.frozen 1
   have e0 := k2c.cell 0
   have e1 := k2c.cell 1
   simp at o1 p0 p1 q0 q1 e0 e1
   have Hrun := hide hrun
   rw [hvf] at Hrun p0 p1 q0 q1 fq0 fq1 e0 e1 HF
   rw [hVf] at p0 e0 e1 HF
   generalize x.eng.bag.length = bl at *
   clear hB6 hown6 hown7 hB7 hB67 k1 k2 k3 hC7 hbag7 nV nB k2a k3a hCa hba k2b k3b hCb hbb k2c k3c hCc hbc hL9 hV9 hBw hrun hB hb1 hb2 hb3 hC HI hVf hvf
   go_wp2_with (at_builtin; refine Lib.wpList_append_run _ rfl _ _ _ _ rfl _ _ rfl rfl _ _ Hrun.out ?_)
   exact bodyPost_ret (v := .agg #[.slice va k vc, .slice ba bl bc]) (by simp [results, Tryz.results35, go_sem, e0, e1]) rfl HF.out

end Go.Proofs.YtjhkadffaephmabGreat

/-
  Engines of which nothing lies in a block that is written.
-/
namespace Go.Proofs.YtjhkadffaephmabGreat
set_option maxRecDepth 100000
open Go.RowKit

theorem Mat.From.clear {m : Mat} {b q : Nat} (h : m.From b) (hq : q < b) : m.Clear q :=
  ⟨fun h0 => by have := h.gb h0; omega, fun r hr h0 => by have := h.rows r hr h0; omega⟩
theorem Mat.In.clear {m : Mat} {N q : Nat} {w : World} (h : m.In N w) (hq : N ≤ q) : m.Clear q :=
  ⟨fun h0 => by have := h.gb h0; omega, fun r hr h0 => by have := (h.addr r hr h0).2; omega⟩
theorem Mat.In.set {m : Mat} {N q : Nat} {w : World} (h : m.In N w) (hc : m.Clear q) (j : Nat) (v : Value) : m.In N (w.setCell ⟨q, j, none⟩ v) where
  ga := h.ga
  gb := h.gb
  row := fun r hr => by rw [cell_other (hc.gb (by omega))]; exact h.row r hr
  addr := h.addr
  cell := fun r hr c hcc => by rw [cell_other (hc.rows r hr (by omega))]; exact h.cell r hr c hcc
  len := h.len
  lens := h.lens

theorem EngM.From.clear {x : EngM} {lo q : Nat} (h : x.From lo) (hq : q < lo) : x.Clear q :=
  ⟨fun h0 => by have := h.g h0; omega, fun i hi => ⟨fun h0 => by have := (h.r i hi).1 h0; omega, (h.r i hi).2.clear hq⟩, fun h0 => by have := h.b h0; omega⟩
theorem EngM.In.clear {x : EngM} {N q : Nat} {w : World} (h : x.In N w) (hq : N ≤ q) : x.Clear q :=
  ⟨fun h0 => by have := h.rs.gb h0; omega, fun i hi => ⟨fun h0 => by have := (h.rs.r i hi).lt h0; omega, (h.rs.r i hi).T.clear hq⟩, fun h0 => by have := h.bag.bb h0; omega⟩
theorem RtrM.In.set {r : RtrM} {N q : Nat} {w : World} (h : r.In N w) (h1 : 0 < r.rl → r.rb ≠ q) (h2 : r.T.Clear q) (j : Nat) (v : Value) : r.In N (w.setCell ⟨q, j, none⟩ v) :=
  ⟨⟨h.ints.addr, fun i hi => by rw [cell_other (h1 (by omega))]; exact h.ints.cell i hi, h.ints.len⟩, h.lt, h.T.set h2 j v⟩
theorem EngM.In.set {x : EngM} {N q : Nat} {w : World} (h : x.In N w) (hc : x.Clear q) (j : Nat) (v : Value) : x.In N (w.setCell ⟨q, j, none⟩ v) :=
  ⟨⟨h.rs.ga, h.rs.gb, fun i hi => by rw [cell_other (hc.g (by omega))]; exact h.rs.c0 i hi, fun i hi => by rw [cell_other (hc.g (by omega))]; exact h.rs.c1 i hi, fun i hi => (h.rs.r i hi).set (hc.r i hi).1 (hc.r i hi).2 j v, h.rs.len⟩,
    ⟨h.bag.ba, h.bag.bb, fun i hi => by rw [cell_other (hc.b (by omega))]; exact h.bag.c0 i hi, fun i hi => by rw [cell_other (hc.b (by omega))]; exact h.bag.c1 i hi, fun i hi => by rw [cell_other (hc.b (by omega))]; exact h.bag.c2 i hi, h.bag.len, h.bag.lens⟩⟩

theorem EngM.Apart.keep {x : EngM} {W W' : World} (h : x.Apart W) (hx : x.In W.heap.size W) (hb : Below W.heap.size W W') : x.Apart W' := fun q a l c a' l' c' hq => by
  by_cases hl : q < W.heap.size
  · exact h q a l c a' l' c' ((hb.block q hl).symm.trans hq)
  · exact hx.clear (by omega)

end Go.Proofs.YtjhkadffaephmabGreat
