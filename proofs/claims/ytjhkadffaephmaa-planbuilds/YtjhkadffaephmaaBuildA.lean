/-
  plan.lesser, buildHops, buildWide.
-/
import Derived.Test.YtjhkadffaephmaaTable
import Derived.Test.YtjhkadffaephmaaPlanF
import Derived.Test.YtjhkadffaephmaaDraw
namespace Go.Proofs.Ytjhkadffaephmaa
set_option maxRecDepth 100000
open Go.RowKit

theorem calls_lesser1 (args : Array Value) (W : World) : (callFunc 142 args).run Try.prog W = .ok (.enter 142 args) W := by rfl
theorem calls_hops1 (args : Array Value) (W : World) : (callFunc 132 args).run Try.prog W = .ok (.enter 132 args) W := by rfl
theorem calls_wide1 (args : Array Value) (W : World) : (callFunc 133 args).run Try.prog W = .ok (.enter 133 args) W := by rfl

set_option maxHeartbeats 400000 in
theorem lesser1_any (i k : Nat) (w : World) :
    Calls Try.prog 142 #[.int .i64 i, .int .i64 k] w fun e w' => e = .returned (.int .i64 ((min i k : Nat) : Int)) ∧ ∃ m, w' = w.drewN m := by
  go_enter Try.func142, Try.ntmps142
  go_wp2
  all_goals go_ret
  all_goals exact ⟨ret_int (by omega), 0, rfl⟩

set_option maxHeartbeats 400000 in
theorem lesser_any (n : Nat) (w : World) (hn : n ≤ 24) :
    Calls Try.prog 130 #[.int .i64 n] w fun e w' => e = .returned (.slice (some ⟨w.heap.size, 0, none⟩) n n) ∧ TabI w n n (fun a b => ((min a b : Nat) : Int)) n w' := by
  have HT := hide (table_any 142 #[] n n (fun a b => ((min a b : Nat) : Int)) w hn hn calls_lesser1 (fun i k W _ _ _ => by simpa using lesser1_any i k W))
  go_enter Try.func130, Try.ntmps130
  go_wp2_with fail
  go_at_call 131
  refine HT.out.mono ?_
  rintro e w' ⟨rfl, h⟩
  have H := hide h
  clear h
  go_wp2
  go_ret
  exact ⟨rfl, H.out⟩

/-- It lies in blocks from b on. -/
structure Mat.From (m : Mat) (b : Nat) : Prop where
  gb : 0 < m.t.len → b ≤ m.gb
  rows : ∀ r, r < m.t.len → 0 < m.t.L r → b ≤ m.RB r
structure AlgM.From (m : AlgM) (b : Nat) : Prop where
  B : m.B.From b
  E : m.E.From b
theorem Mat.From.mono {m : Mat} {b c : Nat} (h : m.From b) (hc : c ≤ b) : m.From c := ⟨fun h0 => Nat.le_trans hc (h.gb h0), fun r hr h0 => Nat.le_trans hc (h.rows r hr h0)⟩
theorem AlgM.From.mono {m : AlgM} {b c : Nat} (h : m.From b) (hc : c ≤ b) : m.From c := ⟨h.B.mono hc, h.E.mono hc⟩
theorem made_from (b n p : Nat) (Z : Nat → Nat → Int) : (madeMat b n p Z).From b := ⟨fun _ => Nat.le_refl _, fun r _ _ => by show b ≤ b + 1 + r; omega⟩

theorem cell_other {W : World} {B C i j : Nat} (hne : B ≠ C) (v : Value) : (W.setCell ⟨C, i, none⟩ v).cell? ⟨B, j, none⟩ = W.cell? ⟨B, j, none⟩ :=
  World.cell?_of_block (by
    show (W.heap.modify C _)[B]? = _
    rw [Array.getElem?_modify, if_neg (Ne.symm hne)])

theorem Mat.In.other {m : Mat} {n b C i : Nat} {w : World} (h : m.In n w) (hf : m.From b) (hC : C < b) (v : Value) : m.In n (w.setCell ⟨C, i, none⟩ v) where
  ga := h.ga
  gb := h.gb
  row := fun r hr => by rw [cell_other (by have := hf.gb (by omega); omega)]; exact h.row r hr
  addr := h.addr
  cell := fun r hr c hc => by rw [cell_other (by have := hf.rows r hr (by omega); omega)]; exact h.cell r hr c hc
  len := h.len
  lens := h.lens

/-- A row of ints that lies in a block of its own. -/
def Lies (W : World) (b : Nat) : Prop := ∃ cs, Blk W b cs 3
theorem Lies.lt {W : World} {b : Nat} (h : Lies W b) : b < W.heap.size := by obtain ⟨_, hc⟩ := h; exact hc.lt
theorem Lies.below {W W' : World} {b k : Nat} (h : Lies W b) (hb : Below k W W') (hk : b < k) : Lies W' b := by obtain ⟨cs, hc⟩ := h; exact ⟨cs, hc.below hb hk⟩
theorem Lies.grown {W W' : World} {b : Nat} (h : Lies W b) (hb : Below W.heap.size W W') : Lies W' b := h.below hb h.lt
theorem Lies.other {W : World} {b g : Nat} (h : Lies W b) (hne : b ≠ g) (i : Nat) (v : Value) : Lies (W.setCell ⟨g, i, none⟩ v) b := by obtain ⟨cs, hc⟩ := h; exact ⟨cs, hc.other hne i v⟩
theorem Lies.set {W : World} {b g : Nat} (h : Lies W b) (i : Nat) (v : Value) : Lies (W.setCell ⟨g, i, none⟩ v) b := by
  obtain ⟨cs, hc⟩ := h
  by_cases e : b = g
  · subst e; exact ⟨_, hc.set i v⟩
  · exact ⟨cs, hc.other e i v⟩
theorem Lies.kept {W W' : World} {b : Nat} {row : Option Nat} (h : Lies W b) (hg : W.grownBy W' row) (hne : row ≠ some b) : Lies W' b := by obtain ⟨cs, hc⟩ := h; exact ⟨cs, hc.kept hg (fun e => hne e.symm)⟩
theorem Lies.frozen {W : World} {b : Nat} (h : Lies W b) (i : Nat) : W.frozen? ⟨b, i, none⟩ = false := by obtain ⟨_, hc⟩ := h; exact hc.frozen i
theorem Lies.own {w : World} {lo g p c n : Nat} {xs : List Value} (h : w.ownsRow lo 3 1 (.slice (some ⟨g, 0, none⟩) p c) n xs) : Lies w g := by
  obtain ⟨_, h2⟩ := h
  rcases h2 with ⟨e0, _⟩ | ⟨g', cap', cur, e1, _, hgb, _⟩
  · cases e0
  · obtain ⟨rfl, _, _⟩ : g = g' ∧ _ := by simpa using e1
    exact ⟨cur, hgb⟩
/-- All its rows do. -/
def Mat.Soft (m : Mat) (W : World) : Prop := ∀ r, r < m.t.len → 0 < m.t.L r → Lies W (m.RB r)
theorem Mat.Soft.grown {m : Mat} {W W' : World} (h : m.Soft W) (hb : Below W.heap.size W W') : m.Soft W' := fun r hr h0 => (h r hr h0).grown hb
theorem Mat.Soft.set {m : Mat} {W : World} (h : m.Soft W) (g i : Nat) (v : Value) : m.Soft (W.setCell ⟨g, i, none⟩ v) := fun r hr h0 => (h r hr h0).set i v

/-- An algebra of its own, in blocks from b on that may be written. -/
structure AlgM.FromS (m : AlgM) (b : Nat) (W : World) : Prop where
  B : m.B.From b
  E : m.E.From b
  sB : m.B.Soft W
  sE : m.E.Soft W
theorem AlgM.FromS.mono {m : AlgM} {b c : Nat} {W : World} (h : m.FromS b W) (hc : c ≤ b) : m.FromS c W := ⟨h.B.mono hc, h.E.mono hc, h.sB, h.sE⟩

/-- What a call that builds returns: an algebra of its own, in blocks from b on. -/
def Made (x : NAlg) (b : Nat) (e : Ending) (w' : World) : Prop := ∃ m : AlgM, e = .returned m.val ∧ m.alg = x.alg ∧ m.In w'.heap.size w' ∧ m.FromS b w'

/-- Three stores into a block of three cells. -/
def set3 (W : World) (B : Nat) (v0 v1 v2 : Value) : World := ((W.setCell ⟨B, 0, none⟩ v0).setCell ⟨B, 1, none⟩ v1).setCell ⟨B, 2, none⟩ v2
theorem Blk.set3 {W : World} {B : Nat} {t : TypeId} {u0 u1 u2 : Value} (h : Blk W B #[u0, u1, u2] t) (v0 v1 v2 : Value) : Blk (set3 W B v0 v1 v2) B #[v0, v1, v2] t := by
  have := ((h.set 0 v0).set 1 v1).set 2 v2
  unfold Ytjhkadffaephmaa.set3
  simpa using this
theorem Blk.far3 {W : World} {B C : Nat} {vs : Array Value} {t : TypeId} (h : Blk W B vs t) (hne : B ≠ C) (v0 v1 v2 : Value) : Blk (((W.setCell ⟨C, 0, none⟩ v0).setCell ⟨C, 1, none⟩ v1).setCell ⟨C, 2, none⟩ v2) B vs t :=
  ((h.other hne _ _).other hne _ _).other hne _ _
theorem below3 {W W' : World} {k B : Nat} (h : Below k W W') (hk : k ≤ B) (v0 v1 v2 : Value) : Below k W (set3 W' B v0 v1 v2) :=
  ((h.setCell (p := ⟨B, 0, none⟩) hk _).setCell (p := ⟨B, 1, none⟩) hk _).setCell (p := ⟨B, 2, none⟩) hk _

theorem mat_in {W : World} {b n p : Nat} {Z : Nat → Nat → Int} (hn : n ≤ 24) (hp : p ≤ 24) (hout : Blk W b (outArr (b + 1) p n n) 32) (hrows : ∀ r, r < n → Blk W (b + 1 + r) (rowArr (Z r) p p) 3) : (madeMat b n p Z).In W.heap.size W where
  ga := fun _ => rfl
  gb := fun _ => hout.lt
  row := fun r hr => by
    have hr' : r < n := hr
    show W.cell? ⟨b, 0 + r, none⟩ = _
    rw [hout.cell (0 + r), Nat.zero_add, outArr_get hr', if_pos hr']
    rfl
  addr := fun r hr _ => ⟨rfl, (hrows r hr).lt⟩
  cell := fun r hr c hc => by
    have hc' : c < p := hc
    show W.cell? ⟨b + 1 + r, 0 + c, none⟩ = _
    rw [(hrows r hr).cell (0 + c), Nat.zero_add, rowArr_get hc', if_pos hc']
    rfl
  len := by show n ≤ maxLen; unfold maxLen; omega
  lens := fun _ _ => by show p ≤ maxLen; unfold maxLen; omega

theorem made_end {x : NAlg} {W1 w1 w2 : World} {B b : Nat} (hx : x.Ok) (h1 : TabI W1 x.size x.size (fun a b => (x.best a b : Int)) x.size w1) (h2 : TabI w1 x.el x.size (fun e a => (x.edge e a : Int)) x.el w2) (hB : B < W1.heap.size) (hb : b ≤ W1.heap.size) (v0 v1 v2 : Value) :
    Made x b (.returned (.agg #[.int .i64 x.size, .slice (some ⟨W1.heap.size, 0, none⟩) x.size x.size, .slice (some ⟨w1.heap.size, 0, none⟩) x.el x.el])) (((w2.setCell ⟨B, 0, none⟩ v0).setCell ⟨B, 1, none⟩ v1).setCell ⟨B, 2, none⟩ v2) := by
  have hi := hx.hi
  have he := hx.el
  have s1 := h1.size
  refine ⟨⟨x.size, madeMat W1.heap.size x.size x.size (fun a b => (x.best a b : Int)), madeMat w1.heap.size x.el x.size (fun e a => (x.edge e a : Int))⟩, rfl, rfl, ⟨?_, ?_⟩, ⟨(made_from _ _ _ _).mono hb, (made_from _ _ _ _).mono (by omega), fun r hr _ => ⟨_, ((h1.rows r hr).below h2.below (h1.rows r hr).lt).far3 (by omega) _ _ _⟩, fun r hr _ => ⟨_, (h2.rows r hr).far3 (by omega) _ _ _⟩⟩⟩
  · exact mat_in hi hi ((h1.out.below h2.below h1.out.lt).far3 (by omega) _ _ _) (fun r hr => ((h1.rows r hr).below h2.below (h1.rows r hr).lt).far3 (by omega) _ _ _)
  · exact mat_in (by omega) hi (h2.out.far3 (by omega) _ _ _) (fun r hr => (h2.rows r hr).far3 (by omega) _ _ _)

set_option maxHeartbeats 1000000 in
theorem hops1_any (h : PHead) (N bx bi e a n : Nat) (W : World) (hh : h.In n W) (hx : W.cell? ⟨bx, 0, none⟩ = some (.slice h.eg h.en h.ec)) (hb : W.cell? ⟨bi, 0, none⟩ = some (.int .i64 ((N : Int) + 1)))
    (he : e < h.en) (hv : 1 ≤ h.ev e ∧ h.ev e ≤ N) (hN : N ≤ 22) (ha : a < N + 2) :
    Calls Try.prog 132 #[.int .i64 e, .int .i64 a, .pointer (some ⟨bx, 0, none⟩), .pointer (some ⟨bi, 0, none⟩)] W fun r w' => r = .returned (.int .i64 ((min (a + h.evN e) (N + 1) : Nat) : Int)) ∧ ∃ m, w' = W.drewN m := by
  have hea := hh.ea (by omega)
  have hc := hh.ecell e he
  have hei : (e : Int) < (h.en : Int) := by omega
  have hel := hh.elen
  unfold maxLen at hel
  obtain ⟨v, hv'⟩ : ∃ v : Nat, h.ev e = (v : Int) := ⟨(h.ev e).toNat, by omega⟩
  have hvN : h.evN e = v := by unfold PHead.evN; omega
  rw [hvN]
  rw [hv'] at hc hv
  clear hv' hvN hh
  rw [hea] at hx
  clear hea
  by_cases hl : (N : Int) + 1 < (a : Int) + (v : Int)
  · go_enter Try.func132, Try.ntmps132
    go_wp2_with fail
    go_quiet (fail)
    go_wp2
    go_ret
    exact ⟨ret_int (by omega), _, rfl⟩
  · go_enter Try.func132, Try.ntmps132
    go_wp2_with fail
    go_quiet (fail)
    go_wp2
    go_ret
    exact ⟨ret_int (by omega), _, rfl⟩

set_option maxHeartbeats 1000000 in
theorem wide1_any (h : PHead) (N bx e a n : Nat) (W : World) (hh : h.In n W) (hx : W.cell? ⟨bx, 0, none⟩ = some (.slice h.eg h.en h.ec))
    (he : e < h.en) (hv : 1 ≤ h.ev e ∧ h.ev e ≤ N) :
    Calls Try.prog 133 #[.int .i64 e, .int .i64 a, .pointer (some ⟨bx, 0, none⟩)] W fun r w' => r = .returned (.int .i64 ((max a (h.evN e) : Nat) : Int)) ∧ ∃ m, w' = W.drewN m := by
  have hea := hh.ea (by omega)
  have hc := hh.ecell e he
  have hei : (e : Int) < (h.en : Int) := by omega
  have hel := hh.elen
  unfold maxLen at hel
  obtain ⟨v, hv'⟩ : ∃ v : Nat, h.ev e = (v : Int) := ⟨(h.ev e).toNat, by omega⟩
  have hvN : h.evN e = v := by unfold PHead.evN; omega
  rw [hvN]
  rw [hv'] at hc hv
  clear hv' hvN hh
  rw [hea] at hx
  clear hea
  go_enter Try.func133, Try.ntmps133
  go_wp2
  all_goals go_ret
  all_goals exact ⟨ret_int (by omega), 0, rfl⟩

set_option maxHeartbeats 2000000 in
theorem buildHops_any (h : PHead) (N : Nat) (w : World) (hh : h.In w.heap.size w) (h1 : 1 ≤ N) (h2 : N ≤ 22) (he : h.en ≤ 8) (hv : ∀ i, i < h.en → 1 ≤ h.ev i ∧ h.ev i ≤ N) :
    Calls Try.prog 105 #[.int .i64 N, .slice h.eg h.en h.ec] w fun e w' => Made (hopsN N h.en h.evN) w.heap.size e w' ∧ Below w.heap.size w w' := by
  have b0 := ((Blk.new w #[.slice h.eg h.en h.ec] 32).alloc (.cells #[.int .i64 0, .slice none 0 0, .slice none 0 0] 24)).alloc (.cells #[.int .i64 ((N : Int) + 1)] 3)
  have b1 : Blk (((w.alloc (.cells #[.slice h.eg h.en h.ec] 32)).alloc (.cells #[.int .i64 0, .slice none 0 0, .slice none 0 0] 24)).alloc (.cells #[.int .i64 ((N : Int) + 1)] 3)) (w.heap.size + 1) #[.int .i64 0, .slice none 0 0, .slice none 0 0] 24 := (Blk.new' (by simp)).alloc _
  have b2 : Blk (((w.alloc (.cells #[.slice h.eg h.en h.ec] 32)).alloc (.cells #[.int .i64 0, .slice none 0 0, .slice none 0 0] 24)).alloc (.cells #[.int .i64 ((N : Int) + 1)] 3)) (w.heap.size + 1 + 1) #[.int .i64 ((N : Int) + 1)] 3 := Blk.new' (by simp)
  have hb0 : Below w.heap.size w (((w.alloc (.cells #[.slice h.eg h.en h.ec] 32)).alloc (.cells #[.int .i64 0, .slice none 0 0, .slice none 0 0] 24)).alloc (.cells #[.int .i64 ((N : Int) + 1)] 3)) := (((Below.refl _ w).alloc (Nat.le_refl _) _).alloc (by simp) _).alloc (by simp; omega) _
  go_enter Try.func105, Try.ntmps105
  go_wp2_with fail
  generalize hW : (((w.alloc (.cells #[.slice h.eg h.en h.ec] 32)).alloc (.cells #[.int .i64 0, .slice none 0 0, .slice none 0 0] 24)).alloc (.cells #[.int .i64 ((N : Int) + 1)] 3)) = W at *
  have hsz : W.heap.size = w.heap.size + 3 := by rw [← hW]; simp
  clear hW
  have x0 := b0.cell 0
  simp at x0
  have HL := hide (lesser_any (N + 2) W.drew (by omega))
  have HT := hide (fun (w1 : World) (hb : Below W.heap.size W w1) => table_any 132 #[.pointer (some ⟨w.heap.size, 0, none⟩), .pointer (some ⟨w.heap.size + 1 + 1, 0, none⟩)] h.en (N + 2) (fun e a => ((min (a + h.evN e) (N + 1) : Nat) : Int)) w1 (by omega) (by omega) calls_hops1 (fun e a W' hi hk hb' => by
    have hbb := hb.trans (hb'.mono hb.size)
    have := hops1_any h N w.heap.size (w.heap.size + 1 + 1) e a w.heap.size W' (hh.below (hb0.trans (hbb.mono (by omega))) (Nat.le_refl _)) ((b0.below hbb b0.lt).cell 0) ((b2.below hbb b2.lt).cell 0) hi (hv e hi) h2 hk
    simpa using this))
  have e2 : ((N + 2 : Nat) : Int) = (N : Int) + 2 := by omega
  simp only [e2] at HL HT
  have hw2 : IntKind.i64.wrap ((N : Int) + 2) = (N : Int) + 2 := by rw [IntKind.wrap_i64]; omega
  go_region_held3 (fun w' => w'.cell? ⟨w.heap.size, 0, none⟩ = some (.slice h.eg h.en h.ec)) (first | go_keep | exact k1 | exact k2 | exact ((b02.far3 (by omega) _ _ _).cell 0))
    (first
      | (go_at_call 130; refine HL.out.mono ?_; rintro e w1 ⟨rfl, hl1⟩; have hB1 := Below.trans (⟨rfl, rfl, rfl, Nat.le_refl _, fun _ _ => rfl⟩ : Below W.heap.size W W.drew) hl1.below; have k1 := (b0.below hB1 b0.lt).cell 0; have HL1 := hide hl1; clear hl1)
      | (go_at_call 131; refine (HT.out _ hB1).mono ?_; rintro e w2 ⟨rfl, hl2⟩; have hB2 := hB1.trans (hl2.below.mono hB1.size); have b02 := b0.below hB2 b0.lt; have k2 := b02.cell 0; have b12 := b1.below hB2 b1.lt; have d0 := b12.cell 0; have d1 := b12.cell 1; have d2 := b12.cell 2; have df := b12.frozen; simp at d0 d1 d2; have HL2 := hide hl2; clear hl2))
  all_goals
    have HM := hide (made_end (B := w.heap.size + 1) (b := w.heap.size) (hops_ok (ev := h.evN) h1 h2 he) HL1.out HL2.out (by show w.heap.size + 1 < W.heap.size; omega) (by show w.heap.size ≤ W.heap.size; omega) (.int .i64 ((N : Int) + 2)) (.slice (some ⟨w.heap.size + 3, 0, none⟩) (N + 2) (N + 2)) (.slice (some ⟨w1.heap.size, 0, none⟩) h.en h.en))
    have HBe := hide (below3 (hb0.trans (hB2.mono (by omega))) (show w.heap.size ≤ w.heap.size + 1 by omega) (.int .i64 ((N : Int) + 2)) (.slice (some ⟨w.heap.size + 3, 0, none⟩) (N + 2) (N + 2)) (.slice (some ⟨w1.heap.size, 0, none⟩) h.en h.en))
    have b13 := b12.set3 (.int .i64 ((N : Int) + 2)) (.slice (some ⟨w.heap.size + 3, 0, none⟩) (N + 2) (N + 2)) (.slice (some ⟨w1.heap.size, 0, none⟩) h.en h.en)
    have e0 := b13.cell 0
    have e1 := b13.cell 1
    have e2' := b13.cell 2
    unfold Ytjhkadffaephmaa.set3 at e0 e1 e2'
    simp at e0 e1 e2'
    clear d0 d1 d2 df k1 k2 b02 b12
    go_wp2
    refine bodyPost_ret (v := .agg #[.int .i64 ((N : Int) + 2), .slice (some ⟨w.heap.size + 3, 0, none⟩) (N + 2) (N + 2), .slice (some ⟨w1.heap.size, 0, none⟩) h.en h.en]) (by simp [results, Try.results105, go_sem, e0, e1, e2']) rfl ⟨?_, HBe.out⟩
    have := HM.out
    rw [show W.drew.heap.size = w.heap.size + 3 from hsz] at this
    exact this

end Go.Proofs.Ytjhkadffaephmaa
